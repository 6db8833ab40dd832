import Derived.Test.YtaokemapkgggoaaDoorKb27
import Derived.WalkMore
import Derived.ScopeJumps
import Derived.Deep.RegionWith
namespace Go.Proofs.YtaokemapkgggoaaDoor
open Go.RowKit

/-- a scope that opens with its label -/
theorem wp_scope_label {P : Program} {a : Act} {w : World} {Q : Exit → Act → World → Prop} {rest : Code} (l : Nat) (J : Act → World → Prop) (μ : Act → World → Nat) (h0 : J a w)
    (pass : ∀ a w, J a w → rest.wp P (Exit.jump l (fun a' w' => J a' w' ∧ μ a' w' < μ a w) Q) a w) : (Code.scope ((Code.label l).seq rest)).wp P Q a w := by
  refine wp_scope_jumps l J μ (rest := .seq .skip rest) (by simp [findLabel]) ?_ ?_
  · refine wp_seq (wp_label ?_)
    refine wp_mono (pass a w h0) ?_
    intro e a' w' h
    cases e <;> first | exact h | exact ⟨h.1, h.2.1⟩
  · intro a' w' hJ
    exact wp_seq (wp_skip (pass a' w' hJ))

theorem jump_ret_of {l i : Nat} {J : Act → World → Prop} {Q : Exit → Act → World → Prop} {a : Act} {w : World} (h : Exit.inBlock i Q .ret a w) : Exit.jump l J (Exit.inBlock i Q) .ret a w := h

theorem jump_normal_of {l i : Nat} {J : Act → World → Prop} {Q : Exit → Act → World → Prop} {a : Act} {w : World} (h : Exit.inBlock i Q .normal a w) : Exit.jump l J (Exit.inBlock i Q) .normal a w := h

theorem byteCells_app (a b : List UInt8) : Lib.byteCells a ++ Lib.strCells (str b) = Lib.byteCells (a ++ b) := by
  rw [Lib.strCells_eq, str_list]
  simp [Lib.byteCells]

set_option maxRecDepth 100000 in
theorem prog_Clone (s : ByteArray) (w : World) (hlim : s.size ≤ 281474976710656) :
    Calls Tryd.prog 54 #[.string s] w fun e w' => e = .returned (.string s) ∧ Below w.heap.size w w' := by
  go_enter Tryd.func54, Tryd.ntmps54
  go_wp2_with (go_at_call 67; refine (shelf_stringslite_Clone s _ hlim).mono ?_; rintro _ w1 ⟨rfl, hb⟩)
  go_ret
  exact ⟨rfl, hb⟩

theorem byteCells_nil (a : List UInt8) : Lib.byteCells a ++ Lib.strCells ⟨#[]⟩ = Lib.byteCells a := by
  have := byteCells_app a []
  rwa [List.append_nil] at this
theorem CutAt.cg {w : World} {g b : Nat} {c0 : ByteArray} {fin : List UInt8 × Dv} {n : Nat} {e : Dv} {come : ByteArray} {out : List UInt8} {wr : World} (A : CutAt w g b c0 fin n e come out wr) : wr.cell? ⟨g, 200, none⟩ = some (.bool false) := by
  have h : Row wr g _ _ := A.at_
  rw [h.cell, ← A.on]
  exact dcells_at _ _ _ _ 0 (fit_len (inB_fit A.fit c0))
theorem PdOff.below {w w' : World} {g B : Nat} {d : Dv} (h : PdOff w g d) (hb : Below B w w') (hg : g < B) : PdOff w' g d := by
  obtain ⟨a, b, h⟩ := h
  exact ⟨a, b, h.below hb hg⟩
theorem GoneAt.off_at {w : World} {g b : Nat} {fin : List UInt8 × Dv} {out : List UInt8} {wr w4 : World} {B : Nat} (A : GoneAt w g b fin out wr) (hb : Below B wr w4) (hg : g < B) : PdOff w4 g fin.2 := A.at_.below hb hg
theorem A1len {n : Nat} {d : Dv} {cur : ByteArray} (fin : List UInt8 × Dv) (HF : Hid (fin = feedC n d cur.data.toList)) (hn : cur.size < n) (st : d.stands) (ok : d.sound) : (Bs fin.2.h0 ++ Bs fin.2.h1).length = 200 := by
  have := feedC_good n d cur.data.toList (by rw [Array.length_toList]; exact hn) ok st
  rw [← HF.out] at this
  rw [List.length_append, Bs_len, Bs_len, this.1.s0, this.1.s1]

set_option maxRecDepth 100000 in
set_option maxHeartbeats 4000000 in
theorem prog_answersTo (w : World) (g : Nat) (d : Dv) (cur : ByteArray) (fin : List UInt8 × Dv) (HF : Hid (fin = feedC (cur.size + 1) d cur.data.toList)) (h : PdAt w g d) (st : d.stands) (ok : d.sound) (on : d.off = false) (hG : ∀ w', w.grownBy w' (some g) → Glob w') (hs : cur.size < 2000000) :
    Calls Tryd.prog 37 #[.pointer (some ⟨g, 0, none⟩), .string cur] w fun r w' => r = .returned (.string (str fin.1)) ∧ PdAny w' g fin.2 ∧ w.grownBy w' (some g) := by
  have hgl := h.lt
  have A0 : CutAt w g w.heap.size d.inn fin (cur.size + 1) d cur [] (w.alloc (.cells #[.pointer none, .slice none 0 0] 102)) :=
    ⟨h.below ((Below.refl _ _).alloc (Nat.le_refl _) _) h.lt, st, ok, on, by omega, by rw [HF.out]; rfl, by simp only [List.length_nil]; omega, grown_alloc (World.grownBy.refl _ _) _, Lib.fresh_isBuilder _ _ w⟩
  go_enter Tryd.func37, Tryd.ntmps37
  go_wp2
  go_loopw [1] (fun cv wr => (∃ (n : Nat) (e : Dv) (come : ByteArray) (out : List UInt8), cv = .string come ∧ CutAt w g w.heap.size d.inn fin n e come out wr) ∨ (∃ (come : ByteArray) (out : List UInt8), cv = .string come ∧ GoneAt w g w.heap.size fin out wr)) (fun cv _ => strLen cv)
  case atStart => exact .inl ⟨_, _, _, _, rfl, A0⟩
  case round =>
    clear A0
    rcases hrel with ⟨n1, e1, c1, out1, rfl, A1⟩ | ⟨c1, out1, rfl, A1⟩
    rotate_left
    · obtain ⟨ga, gb, hgr⟩ := A1.at_
      have cg : wr.cell? ⟨g, 200, none⟩ = some (.bool true) := by rw [hgr.cell]; exact dcells_at _ _ _ _ 0 (A1len fin HF (by omega) st ok)
      clear hgr
      go_wp2_with (go_at_call 55; refine (shelf_Builder_String_any w.heap.size w.heap.size out1 _ A1.bld A1.grown.size).mono ?_; rintro _ w4 ⟨rfl, hb4⟩)
      go_ret
      exact ⟨by rw [A1.outs]; rfl, .inr ⟨A1.off, GoneAt.off_at A1 hb4 hgl⟩, below_grownE A1.grown hb4⟩
    have cg : wr.cell? ⟨g, 200, none⟩ = some (.bool false) := A1.cg
    go_wp2
    refine wp_scope_label 0 (fun a' w' => ∃ (n : Nat) (e : Dv) (come : ByteArray) (out : List UInt8) (u4 u6 u7 u8 u9 u10 u11 u12 u13 u14 u15 u16 u17 u18 u19 u20 u21 u22 u23 u24 u25 u26 u27 u28 u29 u30 u31 u32 u33 u34 u35 u36 u37 u38 u39 u40 u41 u42 u43 u44 u45 u46 u47 u48 u49 u50 u51 u52 : Value), a' = Act.mk (List.toArray (.pointer (some ⟨g, 0, none⟩) :: .string come :: undef :: undef :: u4 :: .pointer (some ⟨w.heap.size, 0, none⟩) :: u6 :: u7 :: u8 :: u9 :: u10 :: u11 :: u12 :: u13 :: u14 :: u15 :: u16 :: u17 :: u18 :: u19 :: u20 :: u21 :: u22 :: u23 :: u24 :: u25 :: u26 :: u27 :: u28 :: u29 :: u30 :: u31 :: u32 :: u33 :: u34 :: u35 :: u36 :: u37 :: u38 :: u39 :: u40 :: u41 :: u42 :: u43 :: u44 :: u45 :: u46 :: u47 :: u48 :: u49 :: u50 :: u51 :: u52 :: undef :: [])) [] ∧ CutAt w g w.heap.size d.inn fin n e come out w' ∧ come.size ≤ c1.size) (fun a' _ => strLen (a'.tmps.getD 1 undef)) ⟨n1, e1, c1, out1, _, _, _, _, _, _, _, _, _, _, _, _, _, _, _, _, _, _, _, _, _, _, _, _, _, _, _, _, _, _, _, _, _, _, _, _, _, _, _, _, _, _, _, _, _, _, _, _, rfl, A1, Nat.le_refl _⟩ ?_
    clear A1
    rintro _ wp ⟨n, e, c2, out, u4, u6, u7, u8, u9, u10, u11, u12, u13, u14, u15, u16, u17, u18, u19, u20, u21, u22, u23, u24, u25, u26, u27, u28, u29, u30, u31, u32, u33, u34, u35, u36, u37, u38, u39, u40, u41, u42, u43, u44, u45, u46, u47, u48, u49, u50, u51, u52, rfl, A2, hle⟩
    go_wp2
    go_loopw [1] (fun cv ws => ∃ come : ByteArray, cv = .string come ∧ CutAt w g w.heap.size d.inn fin n e come out ws ∧ come.size ≤ c2.size) (fun cv _ => strLen cv)
    case atStart => exact ⟨_, rfl, A2, Nat.le_refl _⟩
    case round =>
      obtain ⟨come, rfl, A, hle2⟩ := hrel
      clear A2
      by_cases h0 : come.size = 0
      · have hsk : Hid (come.data.toList = [] ∨ (bytesI come.data.toList).getD 0 0 = 165) := .inl (by obtain rfl := empty_of_size h0; rfl)
        have hfe := prog_frameEnd_short wr come (by omega)
        have HW : Hid (fin = (out, e.inB come)) := A.wait hsk.out (.inl (by omega))
        have hcl : come.size ≤ 281474976710656 := by omega
        clear hle2
        obtain rfl := empty_of_size h0
        go_wp2_with (first | (go_at_call 51; refine hfe.mono ?_; rintro _ _ ⟨rfl, rfl⟩) | (go_at_call 54; refine (prog_Clone _ _ hcl).mono ?_; rintro _ w2 ⟨rfl, hb2⟩; have A3 := A.below hgl hb2; clear hb2; have cc := A3.at_.cc (inB_fit A3.fit _); have fz := Row.frozen A3.at_ 204) | (go_at_call 55; refine (shelf_Builder_String_any w.heap.size w.heap.size out _ (IsBuilder.grownE A3.bld (grown_set (World.grownBy.refl _ _) 204 _) hgl) (by rw [size_setCell]; exact A3.grown.size)).mono ?_; rintro _ w4 ⟨rfl, hb4⟩))
        refine jump_ret_of ?_
        go_wp2
        go_ret
        have hd4 := Row.below (PdAt.setc A3.at_ (inB_fit A3.fit _) _) hb4 hgl
        refine ⟨by rw [HW.out]; rfl, ?_, below_grownE (grown_set A3.grown 204 _) hb4⟩
        rw [HW.out]
        exact .inl ⟨A3.on, hd4⟩
      · have hne := toList_ne_nil h0
        have hby := byte_at (s := come) (i := 0) (by omega)
        have hal := A.len
        have har := A.room
        by_cases h165 : (bytesI come.data.toList).getD 0 0 = 165
        · have hsk : Hid (come.data.toList = [] ∨ (bytesI come.data.toList).getD 0 0 = 165) := .inr h165
          rw [h165] at hby
          have hcl : come.size ≤ 281474976710656 := by omega
          clear h165
          by_cases h2 : come.size < 2
          · have hfe := prog_frameEnd_short wr come h2
            have HW : Hid (fin = (out, e.inB come)) := A.wait hsk.out (.inl h2)
            go_wp2_with (first | (go_at_call 51; refine hfe.mono ?_; rintro _ _ ⟨rfl, rfl⟩) | (go_at_call 54; refine (prog_Clone _ _ hcl).mono ?_; rintro _ w2 ⟨rfl, hb2⟩; have A3 := A.below hgl hb2; clear hb2; have cc := A3.at_.cc (inB_fit A3.fit _); have fz := Row.frozen A3.at_ 204) | (go_at_call 55; refine (shelf_Builder_String_any w.heap.size w.heap.size out _ (IsBuilder.grownE A3.bld (grown_set (World.grownBy.refl _ _) 204 _) hgl) (by rw [size_setCell]; exact A3.grown.size)).mono ?_; rintro _ w4 ⟨rfl, hb4⟩))
            refine jump_ret_of ?_
            go_wp2
            go_ret
            have hd4 := Row.below (PdAt.setc A3.at_ (inB_fit A3.fit _) _) hb4 hgl
            refine ⟨by rw [HW.out]; rfl, ?_, below_grownE (grown_set A3.grown 204 _) hb4⟩
            rw [HW.out]
            exact .inl ⟨A3.on, hd4⟩
          · by_cases h48 : 48 < fLen come.data.toList
            · have hfe := prog_frameEnd_long wr come h2 h48
              have HNW : Hid (¬ (come.size < 2 ∨ (fLen come.data.toList ≤ 48 ∧ come.size < fLen come.data.toList + 4))) := by show ¬ _; omega
              have HB : Hid (48 < fLen come.data.toList ∨ ¬ (1 + sumB ((come.data.toList.drop 1).take (fLen come.data.toList + 2))) % 256 = (bytesI come.data.toList).getD (fLen come.data.toList + 3) 0) := .inl h48
              have hs1 : (1 : Int) ≤ come.size := by omega
              clear h48
              go_wp2_with (first | (go_at_call 51; refine hfe.mono ?_; rintro _ _ ⟨rfl, rfl⟩) | (go_at_call 53; refine (prog_answerOf _ 1 ⟨#[]⟩ (by omega) (by omega) (by decide)).mono ?_; rintro _ w2 ⟨rfl, hb2⟩; have A3 := A.below hgl hb2; clear hb2) | (go_at_call 52; refine (prog_WriteString w.heap.size w.heap.size (Lib.byteCells out) _ _ A3.bld (by rw [Lib.byteCells_length, str_size, told_length]; simp only [List.length_nil]; omega) A3.grown.size).mono ?_; rintro _ w3 ⟨rfl, hb3, hbl3⟩))
              go_step3
              have hbx := (Or.inr hb3 : Lib.IsBuilder 102 5 w.heap.size w.heap.size _ w3)
              rw [byteCells_app] at hbx
              refine ⟨rfl, ⟨n - 1, e, _, _, _, _, _, _, _, _, _, _, _, _, _, _, _, _, _, _, _, _, _, _, _, _, _, _, _, _, _, _, _, _, _, _, _, _, _, _, _, _, _, _, _, _, _, _, _, _, _, _, rfl, A3.bad hsk.out HNW.out HB.out (A3.at_.below hbl3 hgl) (below_grownE A3.grown hbl3) hbx, by rw [ByteArray.size_extract]; omega⟩, ?_⟩
              show strLen (.string (come.extract 1 come.size)) < strLen (.string c2)
              simp only [strLen, ByteArray.size_extract]
              omega
            · by_cases hfw : come.size < fLen come.data.toList + 4
              · have hfe := prog_frameEnd_wait wr come h2 (by omega) hfw
                have HW : Hid (fin = (out, e.inB come)) := A.wait hsk.out (.inr ⟨by omega, hfw⟩)
                clear h48 hfw
                go_wp2_with (first | (go_at_call 51; refine hfe.mono ?_; rintro _ _ ⟨rfl, rfl⟩) | (go_at_call 54; refine (prog_Clone _ _ hcl).mono ?_; rintro _ w2 ⟨rfl, hb2⟩; have A3 := A.below hgl hb2; clear hb2; have cc := A3.at_.cc (inB_fit A3.fit _); have fz := Row.frozen A3.at_ 204) | (go_at_call 55; refine (shelf_Builder_String_any w.heap.size w.heap.size out _ (IsBuilder.grownE A3.bld (grown_set (World.grownBy.refl _ _) 204 _) hgl) (by rw [size_setCell]; exact A3.grown.size)).mono ?_; rintro _ w4 ⟨rfl, hb4⟩))
                refine jump_ret_of ?_
                go_wp2
                go_ret
                have hd4 := Row.below (PdAt.setc A3.at_ (inB_fit A3.fit _) _) hb4 hgl
                refine ⟨by rw [HW.out]; rfl, ?_, below_grownE (grown_set A3.grown 204 _) hb4⟩
                rw [HW.out]
                exact .inl ⟨A3.on, hd4⟩
              · have hfe := prog_frameEnd_whole wr come h2 (by omega) hfw
                have HNW : Hid (¬ (come.size < 2 ∨ (fLen come.data.toList ≤ 48 ∧ come.size < fLen come.data.toList + 4))) := by show ¬ _; omega
                have hs1 : (1 : Int) ≤ come.size := by omega
                by_cases hbad : (1 + sumB ((come.data.toList.drop 1).take (fLen come.data.toList + 2))) % 256 = (bytesI come.data.toList).getD (fLen come.data.toList + 3) 0
                · have HNB : Hid (¬ (48 < fLen come.data.toList ∨ ¬ (1 + sumB ((come.data.toList.drop 1).take (fLen come.data.toList + 2))) % 256 = (bytesI come.data.toList).getD (fLen come.data.toList + 3) 0)) := by show ¬ _; exact fun e => e.elim h48 (fun k => k hbad)
                  rw [decide_eq_false (fun k => k hbad)] at hfe
                  clear hbad
                  have h2c : 2 < come.size := by omega
                  have hby2 := byte_at h2c
                  obtain ⟨fl, HFL⟩ : ∃ fl, Hid (fl = fLen come.data.toList) := ⟨_, rfl⟩
                  have hfl : fl + 4 ≤ come.size := by rw [HFL.out]; omega
                  have hfl48 : fl ≤ 48 := by rw [HFL.out]; omega
                  have hfl' : (fl : Int) + 4 ≤ come.size := by omega
                  rw [← HFL.out] at hfe
                  have HP : Hid (come.extract 3 (fl + 3) = str ((come.data.toList.drop 3).take fl)) := by show _ = _; rw [← list_str (come.extract 3 (fl + 3)), extL2]; rfl
                  have hK := getD_isB (bytesI_B come.data.toList) 2
                  obtain ⟨kk, HK⟩ : ∃ kk, Hid (kk = (bytesI come.data.toList).getD 2 0) := ⟨_, rfl⟩
                  rw [← HK.out] at hby2 hK
                  obtain ⟨pl, HPL⟩ : ∃ pl, Hid (pl = come.extract 3 (fl + 3)) := ⟨_, rfl⟩
                  have hpl : pl.size < 100000 := by rw [HPL.out, ByteArray.size_extract]; omega
                  have hpx : come.extract 3 (fl + 3) = pl := HPL.out.symm
                  clear h48 hfw
                  go_wp2_with (first | (go_at_call 51; refine hfe.mono ?_; rintro _ wz ⟨rfl, nz, hz⟩; have A3 : CutAt w g w.heap.size d.inn fin n e come out wz := (by rw [hz]; exact A.below hgl (below_drewN (Below.refl _ _) _)); clear hz A hfe))
                  have A4 : CutAt w g w.heap.size d.inn fin n e come out wz.drew := A3.below hgl (Below.refl _ _).drew
                  obtain ⟨c, HC⟩ : ∃ c, Hid (c = e.commandC kk pl) := ⟨_, rfl⟩
                  have HCM : Hid (c = e.commandC ((bytesI come.data.toList).getD 2 0) (str ((come.data.toList.drop 3).take (fLen come.data.toList)))) := by show _ = _; rw [HC.out, HK.out, HPL.out, HP.out, HFL.out]
                  have HCL : Hid (c.2.2.length ≤ 32) := by show _ ≤ _; rw [HC.out]; exact (Dv.commandC_len e kk pl).1
                  have h2i : (2 : Int) < come.size := by omega
                  have hwr : IntKind.i64.wrap ((fl : Int) + 4 - 1) = (fl : Int) + 3 := by rw [IntKind.wrap_i64]; omega
                  have hpx' : come.extract 3 ((fl : Int) + 3).toNat = pl := by rw [← hpx]; congr 1
                  have hb3 : (3 : Int) ≤ (fl : Int) + 3 := by omega
                  have hb4 : (fl : Int) + 3 ≤ come.size := by omega
                  have hb0 : (0 : Int) ≤ (fl : Int) + 3 := by omega
                  have hOB := prog_obeyC wz.drew g (e.inB d.inn) kk pl _ (Dv.commandC_inB e d.inn kk pl).symm A4.at_ (inB_fit A4.fit _) (inB_sound A4.ok _) A4.on (fun w' hw' => hG _ (A4.grown.trans hw')) hpl
                  rw [← HC.out] at hOB
                  by_cases hco : c.1.off = true
                  · have hob := hOB.2 hco
                    clear hOB
                    go_region_with (first | (go_at_call 56; refine hob.mono ?_; rintro _ w3 ⟨rfl, hd3, hg3⟩) | (go_at_call 52; refine (prog_WriteString w.heap.size w.heap.size (Lib.byteCells out) _ _ (IsBuilder.grownE A4.bld hg3 hgl) (by rw [Lib.byteCells_length]; show out.length + 0 ≤ _; omega) (Nat.le_trans A4.grown.size hg3.size)).mono ?_; rintro _ w5 ⟨rfl, hb5, hbl5⟩))
                    go_wp2
                    refine jump_normal_of ?_
                    have hbx := (Or.inr hb5 : Lib.IsBuilder 102 5 w.heap.size w.heap.size _ w5)
                    rw [byteCells_nil] at hbx
                    have AF := A4.cmdOff hsk.out HNW.out HNB.out HCM.out hco (hd3.below hbl5 hgl) (below_grownE (A4.grown.trans hg3) hbl5) hbx
                    go_wp2
                    refine ⟨.inr ⟨_, _, rfl, AF⟩, ?_⟩
                    simp only [strLen, ByteArray.size_extract]
                    omega
                  · have hco' : c.1.off = false := by simpa using hco
                    have hob := hOB.1 hco'
                    clear hOB
                    go_region_with (first | (go_at_call 56; refine hob.mono ?_; rintro _ w3 ⟨rfl, hd3, hg3⟩) | (go_at_call 52; refine (prog_WriteString w.heap.size w.heap.size (Lib.byteCells out) _ _ (IsBuilder.grownE A4.bld hg3 hgl) (by have := HCL.out; rw [Lib.byteCells_length, str_size, told_length]; omega) (Nat.le_trans A4.grown.size hg3.size)).mono ?_; rintro _ w5 ⟨rfl, hb5, hbl5⟩))
                    go_wp2
                    refine jump_normal_of ?_
                    have hbx := (Or.inr hb5 : Lib.IsBuilder 102 5 w.heap.size w.heap.size _ w5)
                    rw [byteCells_app] at hbx
                    have AF := A4.cmd hsk.out HNW.out HNB.out HCM.out hco' (hd3.below hbl5 hgl) (below_grownE (A4.grown.trans hg3) hbl5) hbx
                    rw [← HFL.out] at AF
                    go_wp2
                    refine ⟨.inl ⟨_, _, _, _, rfl, AF⟩, ?_⟩
                    simp only [strLen, ByteArray.size_extract]
                    omega
                · have HB : Hid (48 < fLen come.data.toList ∨ ¬ (1 + sumB ((come.data.toList.drop 1).take (fLen come.data.toList + 2))) % 256 = (bytesI come.data.toList).getD (fLen come.data.toList + 3) 0) := .inr hbad
                  rw [decide_eq_true hbad] at hfe
                  clear hbad h48
                  go_wp2_with (first | (go_at_call 51; refine hfe.mono ?_; rintro _ wz ⟨rfl, nz, hz⟩; have AZ : CutAt w g w.heap.size d.inn fin n e come out wz := (by rw [hz]; exact A.below hgl (below_drewN (Below.refl _ _) _)); clear hz) | (go_at_call 53; refine (prog_answerOf _ 1 ⟨#[]⟩ (by omega) (by omega) (by decide)).mono ?_; rintro _ w2 ⟨rfl, hb2⟩; have A3 := AZ.below hgl hb2; clear hb2) | (go_at_call 52; refine (prog_WriteString w.heap.size w.heap.size (Lib.byteCells out) _ _ A3.bld (by rw [Lib.byteCells_length, str_size, told_length]; simp only [List.length_nil]; omega) A3.grown.size).mono ?_; rintro _ w3 ⟨rfl, hb3, hbl3⟩))
                  go_step3
                  have hbx := (Or.inr hb3 : Lib.IsBuilder 102 5 w.heap.size w.heap.size _ w3)
                  rw [byteCells_app] at hbx
                  refine ⟨rfl, ⟨n - 1, e, _, _, _, _, _, _, _, _, _, _, _, _, _, _, _, _, _, _, _, _, _, _, _, _, _, _, _, _, _, _, _, _, _, _, _, _, _, _, _, _, _, _, _, _, _, _, _, _, _, _, rfl, A3.bad hsk.out HNW.out HB.out (A3.at_.below hbl3 hgl) (below_grownE A3.grown hbl3) hbx, by rw [ByteArray.size_extract]; omega⟩, ?_⟩
                  show strLen (.string (come.extract 1 come.size)) < strLen (.string c2)
                  simp only [strLen, ByteArray.size_extract]
                  omega
        · have AP := A.pass (by omega) h165
          generalize (bytesI come.data.toList).getD 0 0 = x at *
          have hs1 : (1 : Int) ≤ come.size := by omega
          go_wp2
          exact ⟨⟨_, rfl, AP, by rw [ByteArray.size_extract]; omega⟩, by simp only [strLen, ByteArray.size_extract]; omega⟩

set_option maxRecDepth 100000 in
set_option maxHeartbeats 1000000 in
theorem prog_answersTo_off (w : World) (g : Nat) (d : Dv) (cur : ByteArray) (h : PdOff w g d) (ok : d.sound) :
    Calls Tryd.prog 37 #[.pointer (some ⟨g, 0, none⟩), .string cur] w fun r w' => r = .returned (.string ⟨#[]⟩) ∧ Below w.heap.size w w' := by
  obtain ⟨ga, gb, hgr⟩ := h
  have hl : (Bs d.h0 ++ Bs d.h1).length = 200 := by rw [List.length_append, Bs_len, Bs_len, ok.s0, ok.s1]
  have B1 : Lib.IsBuilder 102 5 w.heap.size w.heap.size (Lib.byteCells []) (w.alloc (.cells #[.pointer none, .slice none 0 0] 102)) := Lib.fresh_isBuilder _ _ w
  have hb1 : Below w.heap.size w (w.alloc (.cells #[.pointer none, .slice none 0 0] 102)) := (Below.refl _ _).alloc (Nat.le_refl _) _
  have cg : (w.alloc (.cells #[.pointer none, .slice none 0 0] 102)).cell? ⟨g, 200, none⟩ = some (.bool true) := by rw [(hgr.below hb1 hgr.lt).cell]; exact dcells_at _ _ _ _ 0 hl
  clear hgr
  generalize hwa : w.alloc (.cells #[.pointer none, .slice none 0 0] 102) = wa at *
  go_enter Tryd.func37, Tryd.ntmps37
  go_wp2
  go_loopw [1] (fun cv wr => cv = .string cur ∧ wr = wa) (fun _ _ => 0)
  case atStart => exact ⟨rfl, rfl⟩
  case round =>
    obtain ⟨rfl, rfl⟩ := hrel
    go_wp2_with (go_at_call 55; refine (shelf_Builder_String_any w.heap.size w.heap.size [] _ B1 hb1.size).mono ?_; rintro _ w4 ⟨rfl, hb4⟩)
    go_ret
    exact ⟨rfl, hb1.trans hb4⟩

set_option maxRecDepth 100000 in
set_option maxHeartbeats 1000000 in
/-- Feed, by the document's device -/
theorem prog_Feed (w : World) (g : Nat) (d : Dv) (s : ByteArray) (h : PdAny w g d) (st : d.stands) (ok : d.sound) (hG : ∀ w', w.grownBy w' (some g) → Glob w') (hs : d.inn.size + s.size < 2000000) :
    Calls Tryd.prog 19 #[.pointer (some ⟨g, 0, none⟩), .string s] w fun r w' => r = .returned (.string (str (feedC ((d.inn ++ s).size + 1) d (d.inn ++ s).data.toList).1)) ∧ PdAny w' g (feedC ((d.inn ++ s).size + 1) d (d.inn ++ s).data.toList).2 ∧ w.grownBy w' (some g) := by
  rcases h with ⟨on, h⟩ | ⟨off, h⟩
  · obtain ⟨fin, HF⟩ : ∃ fin, Hid (fin = feedC ((d.inn ++ s).size + 1) d (d.inn ++ s).data.toList) := ⟨_, rfl⟩
    rw [← HF.out]
    have hc := prog_answersTo w g d (d.inn ++ s) fin HF h st ok on hG (by rw [ByteArray.size_append]; exact hs)
    have cc := h.cc (st.fit ok)
    have hs9 : d.inn.size + s.size ≤ 9223372036854775807 := by omega
    clear HF
    go_enter Tryd.func19, Tryd.ntmps19
    go_wp2_with (go_at_call 37; refine hc.mono ?_; rintro _ w1 ⟨rfl, hd1, hg1⟩)
    go_ret
    exact ⟨rfl, hd1, hg1⟩
  · rw [feedC_off off]
    have hc := fun cur => prog_answersTo_off w g d cur h ok
    have h' := h
    obtain ⟨ga, gb, hgr⟩ := h
    have hl : (Bs d.h0 ++ Bs d.h1).length = 200 := by rw [List.length_append, Bs_len, Bs_len, ok.s0, ok.s1]
    have cc : w.cell? ⟨g, 204, none⟩ = some (.string ⟨#[]⟩) := by rw [hgr.cell]; exact dcells_at _ _ _ _ 4 hl
    have hgl := hgr.lt
    have hs9 : s.size ≤ 9223372036854775807 := by omega
    clear hgr
    go_enter Tryd.func19, Tryd.ntmps19
    go_wp2_with (go_at_call 37; refine (hc _).mono ?_; rintro _ w1 ⟨rfl, hb1⟩)
    go_ret
    exact ⟨rfl, .inr ⟨off, PdOff.below h' hb1 hgl⟩, grown_of_below _ hb1⟩

set_option maxRecDepth 100000 in
/-- Flash, by the document's device -/
theorem prog_Flash (w : World) (g : Nat) (d : Dv) (h : PdAny w g d) (ok : d.sound) :
    Calls Tryd.prog 21 #[.pointer (some ⟨g, 0, none⟩)] w fun r w' => r = .returned (.string (d.h0 ++ d.h1)) ∧ Below w.heap.size w w' := by
  have e : str (Bs d.h0 ++ Bs d.h1) = d.h0 ++ d.h1 := by
    rw [← list_str (d.h0 ++ d.h1), ByteArray.data_append, Array.toList_append]
  have hl : (Bs d.h0 ++ Bs d.h1).length = 200 := by rw [List.length_append, Bs_len, Bs_len, ok.s0, ok.s1]
  obtain ⟨_, _, _, h⟩ := h.cells
  have hc := prog_text w g (Bs d.h0 ++ Bs d.h1) hl (dev_range h)
  rw [e] at hc
  go_enter Tryd.func21, Tryd.ntmps21
  go_wp2_with (go_at_call 38; refine hc.mono ?_; rintro _ w1 ⟨rfl, hb1⟩)
  go_ret
  exact ⟨rfl, hb1⟩
end Go.Proofs.YtaokemapkgggoaaDoor
