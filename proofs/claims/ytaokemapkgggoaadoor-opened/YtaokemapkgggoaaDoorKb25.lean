import Derived.Test.YtaokemapkgggoaaDoorKb24
import Derived.Defers
import Derived.Recover
import Derived.Test.YtaokemapkgggoaaDoorKb18
namespace Go.Proofs.YtaokemapkgggoaaDoor
open Go.RowKit

theorem Dv.commandC_command {d : Dv} {k : Int} {p : ByteArray} (h1 : ¬ k = 1) (h3 : ¬ k = 3) (h6 : ¬ k = 6) : d.commandC k p = d.command k p := by
  unfold Dv.commandC
  rw [if_neg h1]
  by_cases h : k = 3 ∨ k = 4 ∨ k = 5
  · rw [if_pos h]
    unfold Dv.slotC Dv.command
    rw [if_neg (fun e => h3 e.1), if_neg h1, if_neg (by omega), if_neg (by omega), if_pos h]
  · rw [if_neg h, if_neg (fun e => h6 e.1)]
theorem Dv.command_no {d : Dv} {k : Int} {p : ByteArray} (h1 : ¬ k = 1) (h2 : ¬ k = 2) (h3 : ¬ k = 3) (h4 : ¬ k = 4) (h5 : ¬ k = 5) (h6 : ¬ k = 6) (h7 : ¬ k = 7) : d.command k p = (d, 6, []) := by
  unfold Dv.command
  rw [if_neg h1, if_neg h2, if_neg h7, if_neg (by omega), if_neg h6]
theorem Dv.command2_nil (d : Dv) (p : ByteArray) : (d.command 2 p).2.2 = [] := by
  unfold Dv.command
  rw [if_neg (by omega), if_pos rfl]
  split <;> rfl

theorem ends_of {w0 : World} {g j : Nat} {d : Dv} {k : Int} {p : ByteArray} {E : Dv × Int × List UInt8} {r : Ending} {w' : World} (h1 : ¬ k = 1) (h3 : ¬ k = 3) (h6 : ¬ k = 6) (hE : E = d.commandC k p) (ho : (d.command k p).1.off = false) (hr : r = .returned (.tuple #[.int .u8 (d.command k p).2.1, .string (str (d.command k p).2.2)])) (hl : PLeft w0 g j (d.command k p).1 w') : EndsBy w0 g j E (.tuple #[.int .u8 E.2.1, .string (str E.2.2)]) r w' := by
  rw [Dv.commandC_command h1 h3 h6] at hE
  subst hE
  exact .inl ⟨ho, hr, hl⟩

set_option maxRecDepth 100000 in
set_option maxHeartbeats 1000000 in
/-- one command, by the document's device -/
theorem prog_doC (w0 w : World) (g j : Nat) (d : Dv) (x : UInt8) (k : Int) (p : ByteArray) (E : Dv × Int × List UInt8) (HE : Hid (E = d.commandC k p)) (h : PdAt w g d) (f : d.fit) (ok : d.sound) (ho : d.off = false) (hG : Glob w) (hs : p.size < 100000) (hW : Row w j (bcells (d.k.raw x)) 75) (hgj : ¬ g = j) (hgr : Two g j w0 w) :
    Calls Tryd.prog 76 #[.pointer (some ⟨g, 0, none⟩), .pointer (some ⟨j, 0, none⟩), .int .u8 k, .string p] w fun r w' => EndsBy w0 g j E (.tuple #[.int .u8 E.2.1, .string (str E.2.2)]) r w' := by
  have hq : ∀ w', Below w.heap.size w w' → PLeft w0 g j d w' := fun w' hb => ⟨h.below hb h.lt, ⟨_, Kep.raw_length ok.good, hW.below hb hW.lt⟩, hgr.trans (.ofB hb)⟩
  have hjg : ¬ j = g := fun e => hgj e.symm
  by_cases h1 : k = 1
  · subst h1
    have hc := prog_unlockC w0 w g j d x p E HE h f ok ho hW hgj hgr
    clear HE
    by_cases hE : E.1.off = true
    · replace hc := hc.mono (fun r w' e => e.elim (fun a => absurd (a.1.symm.trans hE) (by decide)) (fun a => a.2) : ∀ r w', _ → r = lost ∧ PLost w0 g j E.1 w')
      go_enter Tryd.func76, Tryd.ntmps76
      go_wp2_with (go_at_call 79; refine hc.mono ?_; rintro _ w1 ⟨hr1, hl⟩; rw [lost_is] at hr1; subst hr1)
      exact ⟨rfl, .inr ⟨hE, rfl, hl⟩⟩
    · have hE' : E.1.off = false := by simpa using hE
      replace hc := hc.mono (fun r w' e => e.elim (fun a => a.2) (fun a => absurd a.1 hE) : ∀ r w', _ → r = .returned (.tuple #[.int .u8 E.2.1, .string (str E.2.2)]) ∧ PLeft w0 g j E.1 w')
      go_enter Tryd.func76, Tryd.ntmps76
      go_wp2_with (go_at_call 79; refine hc.mono ?_; rintro _ w1 ⟨rfl, hl⟩)
      go_ret2
      exact .inl ⟨hE', rfl, hl⟩
  by_cases h3 : k = 3
  · subst h3
    have hc := prog_setC w0 w g j d x p E HE h f ok ho hW hgj hgr
    clear HE
    by_cases hE : E.1.off = true
    · replace hc := hc.mono (fun r w' e => e.2.elim (fun a => absurd (a.1.symm.trans hE) (by decide)) (fun a => a.2) : ∀ r w', _ → r = lost ∧ PLost w0 g j E.1 w')
      go_enter Tryd.func76, Tryd.ntmps76
      go_wp2_with (go_at_call 81; refine hc.mono ?_; rintro _ w1 ⟨hr1, hl⟩; rw [lost_is] at hr1; subst hr1)
      exact ⟨rfl, .inr ⟨hE, rfl, hl⟩⟩
    · have hE' : E.1.off = false := by simpa using hE
      replace hc := hc.mono (fun r w' e => ⟨e.1, e.2.elim (fun a => a.2) (fun a => absurd a.1 hE)⟩ : ∀ r w', _ → E.2.2 = [] ∧ r = .returned (.int .u8 E.2.1) ∧ PLeft w0 g j E.1 w')
      go_enter Tryd.func76, Tryd.ntmps76
      go_wp2_with (go_at_call 81; refine hc.mono ?_; rintro _ w1 ⟨hn, rfl, hl⟩)
      go_ret2
      exact .inl ⟨hE', by rw [hn]; rfl, hl⟩
  by_cases h6 : k = 6
  · subst h6
    have hc := prog_setPinC w0 w g j d x p E HE h f ok ho hW hgj hgr
    clear HE
    by_cases hE : E.1.off = true
    · replace hc := hc.mono (fun r w' e => e.2.elim (fun a => absurd (a.1.symm.trans hE) (by decide)) (fun a => a.2) : ∀ r w', _ → r = lost ∧ PLost w0 g j E.1 w')
      go_enter Tryd.func76, Tryd.ntmps76
      go_wp2_with (go_at_call 84; refine hc.mono ?_; rintro _ w1 ⟨hr1, hl⟩; rw [lost_is] at hr1; subst hr1)
      exact ⟨rfl, .inr ⟨hE, rfl, hl⟩⟩
    · have hE' : E.1.off = false := by simpa using hE
      replace hc := hc.mono (fun r w' e => ⟨e.1, e.2.elim (fun a => a.2) (fun a => absurd a.1 hE)⟩ : ∀ r w', _ → E.2.2 = [] ∧ r = .returned (.int .u8 E.2.1) ∧ PLeft w0 g j E.1 w')
      go_enter Tryd.func76, Tryd.ntmps76
      go_wp2_with (go_at_call 84; refine hc.mono ?_; rintro _ w1 ⟨hn, rfl, hl⟩)
      go_ret2
      exact .inl ⟨hE', by rw [hn]; rfl, hl⟩
  have HC := fun (r : Ending) (w' : World) => ends_of (w0 := w0) (g := g) (j := j) (r := r) (w' := w') h1 h3 h6 HE.out
  clear HE
  by_cases h2 : k = 2
  · subst h2
    have hc := prog_lock w g d p h f
    have hn := d.command2_nil p
    have hof : (d.command 2 p).1.off = false := by rw [show d.command 2 p = (if p.size = 0 then (d.lock, 0, []) else (d, 4, [])) by unfold Dv.command; rw [if_neg (by omega), if_pos rfl]]; split <;> exact ho
    obtain ⟨C, HCC⟩ : ∃ C, Hid (C = d.command 2 p) := ⟨_, rfl⟩
    rw [← HCC.out] at hc hn hof HC
    go_enter Tryd.func76, Tryd.ntmps76
    go_wp2_with (go_at_call 80; refine hc.mono ?_; rintro _ w1 ⟨rfl, hl, hg⟩)
    go_ret2
    exact HC _ _ hof (by rw [hn]; rfl) ⟨hl, ⟨_, Kep.raw_length ok.good, Row.grown hW hg hjg⟩, hgr.trans (.of1 hg)⟩
  by_cases h4 : k = 4
  · subst h4
    have hc := prog_sealD w g j d x p h f ok hG hs hW
    obtain ⟨C, HCC⟩ : ∃ C, Hid (C = d.command 4 p) := ⟨_, rfl⟩
    rw [← HCC.out] at hc HC
    go_enter Tryd.func76, Tryd.ntmps76
    go_wp2_with (go_at_call 82; refine hc.mono ?_; rintro _ w1 ⟨rfl, hn, hl⟩)
    go_ret2
    exact HC _ _ (by rw [hn]; exact ho) rfl (by rw [hn]; exact hq _ hl)
  by_cases h5 : k = 5
  · subst h5
    have hc := prog_codeD w g j d x p h f ok hG hW
    obtain ⟨C, HCC⟩ : ∃ C, Hid (C = d.command 5 p) := ⟨_, rfl⟩
    rw [← HCC.out] at hc HC
    go_enter Tryd.func76, Tryd.ntmps76
    go_wp2_with (go_at_call 83; refine hc.mono ?_; rintro _ w1 ⟨rfl, hn, hl⟩)
    go_ret2
    exact HC _ _ (by rw [hn]; exact ho) rfl (by rw [hn]; exact hq _ hl)
  by_cases h7 : k = 7
  · subst h7
    have hc := prog_tell w g j d x p h f ok hW
    obtain ⟨C, HCC⟩ : ∃ C, Hid (C = d.command 7 p) := ⟨_, rfl⟩
    rw [← HCC.out] at hc HC
    go_enter Tryd.func76, Tryd.ntmps76
    go_wp2_with (go_at_call 85; refine hc.mono ?_; rintro _ w1 ⟨rfl, hn, hl⟩)
    go_ret2
    exact HC _ _ (by rw [hn]; exact ho) rfl (by rw [hn]; exact hq _ hl)
  · rw [Dv.command_no h1 h2 h3 h4 h5 h6 h7] at HC
    go_enter Tryd.func76, Tryd.ntmps76
    go_wp2
    go_ret2
    exact HC _ _ ho rfl (hq _ (Below.refl _ _))
end Go.Proofs.YtaokemapkgggoaaDoor

set_option linter.unusedSimpArgs false
namespace Go.Proofs.YtaokemapkgggoaaDoor
open Go.RowKit

theorem size_dev : (Tryd.prog.info? 81).map (·.size) = some 205 := by kernel_rfl
theorem size_flash : (Tryd.prog.info? 77).map (·.size) = some 200 := by kernel_rfl
theorem under_power : ∃ fs, Tryd.prog.underlying 79 = some (.struct fs) := struct_is (by kernel_rfl)
theorem size_power : (Tryd.prog.info? 79).map (·.size) = some 3 := by kernel_rfl
theorem dcells_one (f : List UInt8) (q : Pw) (u : Bool) (c : ByteArray) : ∀ v ∈ dcells f q u c, v.oneCell' = true := by
  intro v hv
  rcases List.mem_append.1 hv with h | h
  · exact bcells_one f v h
  · simp only [List.mem_cons, List.not_mem_nil, or_false] at h
    rcases h with rfl | rfl | rfl | rfl | rfl <;> rfl

theorem dev_power (f : List UInt8) (r : Pw) (hl : f.length = 200) : (((dcells f .none false ⟨#[]⟩).set 200 (.bool r.gone)).set 201 (.bool r.ending)).set 202 (.int .i64 r.left) = dcells f r false ⟨#[]⟩ := by
  have h0 : (dcells f .none false ⟨#[]⟩).set 200 (.bool r.gone) = dcells f ⟨r.gone, false, 0⟩ false ⟨#[]⟩ := dcells_put f .none false ⟨#[]⟩ 0 (.bool r.gone) hl
  have h1 : (dcells f ⟨r.gone, false, 0⟩ false ⟨#[]⟩).set 201 (.bool r.ending) = dcells f ⟨r.gone, r.ending, 0⟩ false ⟨#[]⟩ := dcells_put f ⟨r.gone, false, 0⟩ false ⟨#[]⟩ 1 (.bool r.ending) hl
  have h2 : (dcells f ⟨r.gone, r.ending, 0⟩ false ⟨#[]⟩).set 202 (.int .i64 r.left) = dcells f r false ⟨#[]⟩ := dcells_put f ⟨r.gone, r.ending, 0⟩ false ⟨#[]⟩ 2 (.int .i64 r.left) hl
  rw [h0, h1, h2]
theorem splice_all (a b : List Value) (h : a.length = b.length) : splice a 0 b = b := by
  unfold splice
  simp [h]

set_option maxRecDepth 100000 in
set_option maxHeartbeats 1000000 in
theorem prog_restart (w : World) (g : Nat) (f : List UInt8) (q r : Pw) (u : Bool) (c : ByteArray) (hR : Row w g (dcells f q u c) 81) (hl : f.length = 200) :
    Calls Tryd.prog 39 #[.pointer (some ⟨g, 0, none⟩), .agg #[.bool r.gone, .bool r.ending, .int .i64 r.left]] w fun e w' => e = .returned (.tuple #[]) ∧ Row w' g (dcells f r false ⟨#[]⟩) 81 ∧ w.grownBy w' (some g) := by
  have hrg := dev_range hR
  have hbl : (bcells f).length = 200 := by rw [bcells_length, hl]
  obtain ⟨fs, hu⟩ := under_power
  have e98 := build98 f hl
  go_enter Tryd.func39, Tryd.ntmps39
  go_wp2
  have hRa : Row ((w.alloc (.cells #[.bool r.gone, .bool r.ending, .int .i64 r.left] 79)).drew) g (dcells f q u c) 81 := (hR.alloc _).drew
  have hS0 : ((w.alloc (.cells #[.bool r.gone, .bool r.ending, .int .i64 r.left] 79)).drew).rangeAt g 0 (bcells f) ∧ ((w.alloc (.cells #[.bool r.gone, .bool r.ending, .int .i64 r.left] 79)).drew).rangeAt w.heap.size 0 [.bool r.gone, .bool r.ending, .int .i64 r.left] ∧ ((w.alloc (.cells #[.bool r.gone, .bool r.ending, .int .i64 r.left] 79)).drew).there g 0 205 := ⟨dev_range hRa, (Row.made w _ _).drew.range, by have := hRa.thereFrom 0 205 (by rw [dcells_length, hl]; omega); exact this⟩
  have hRf : Row (((w.alloc (.cells #[.bool r.gone, .bool r.ending, .int .i64 r.left] 79)).drew).setCells g 0 (dcells f r false ⟨#[]⟩)) g (dcells f r false ⟨#[]⟩) 81 := by
    have := Row.setCells (dcells f r false ⟨#[]⟩) 0 hRa (by rw [dcells_length, dcells_length]; omega)
    rwa [splice_all _ _ (by rw [dcells_length, dcells_length])] at this
  have hgl := hR.lt
  have hS1 : (((w.alloc (.cells #[.bool r.gone, .bool r.ending, .int .i64 r.left] 79)).drew).setCells g 0 (dcells f r false ⟨#[]⟩)).rangeAt g 0 (bcells f) ∧ (((w.alloc (.cells #[.bool r.gone, .bool r.ending, .int .i64 r.left] 79)).drew).setCells g 0 (dcells f r false ⟨#[]⟩)).rangeAt w.heap.size 0 [.bool r.gone, .bool r.ending, .int .i64 r.left] ∧ (((w.alloc (.cells #[.bool r.gone, .bool r.ending, .int .i64 r.left] 79)).drew).setCells g 0 (dcells f r false ⟨#[]⟩)).there g 0 205 :=
    ⟨dev_range hRf, World.rangeAt_setCells_apart hS0.2.1 _ _ _ (.inl (by omega)), World.there_setCells hS0.2.2 _ _ _⟩
  refine Code.wp_mono (Q := fun e_ a_ w_ => e_ = .normal ∧ a_ = Act.mk (List.toArray ((.pointer (some ⟨g, 0, none⟩)) :: (.agg #[.bool r.gone, .bool r.ending, .int .i64 r.left]) :: undef :: (.pointer (some ⟨w.heap.size, 0, none⟩)) :: (.pointer (some ⟨g, 0, none⟩)) :: (.pointer (some ⟨g, 0, none⟩)) :: (.pointer (some ⟨g, 0, none⟩)) :: (.pointer (some ⟨g, 0, none⟩)) :: (.agg (bcells f).toArray) :: (.agg #[.bool r.gone, .bool r.ending, .int .i64 r.left]) :: (.agg (dcells f r false ⟨#[]⟩).toArray) :: (.pointer (some ⟨g, 0, none⟩)) :: [])) [] ∧ w_ = ((w.alloc (.cells #[.bool r.gone, .bool r.ending, .int .i64 r.left] 79)).drew).setCells g 0 (dcells f r false ⟨#[]⟩)) ?_ ?_
  case refine_2 =>
    refine wp_region_held (S := fun w' => w'.rangeAt g 0 (bcells f) ∧ w'.rangeAt w.heap.size 0 [.bool r.gone, .bool r.ending, .int .i64 r.left] ∧ w'.there g 0 205) (by kernel_rfl) ?_
    refine wpAnyH_take (i := 0) (v := .pointer (some ⟨g, 0, none⟩)) rfl (by kernel_rfl) (by kernel_rfl) (by kernel_rfl) (fun _ _ _ h => no_panic h.1) (yields_of rfl (fun w' hw' => by go_split_ands; go_simp)) hS0 ?_
    try simp only [List.getElem_toArray, List.getElem_cons_succ, List.getElem_cons_zero, Act.put, List.setIfInBounds_toArray, List.set_cons_succ, List.set_cons_zero]
    refine wpAnyH_take (i := 1) (v := .pointer (some ⟨g, 0, none⟩)) rfl (by kernel_rfl) (by kernel_rfl) (by kernel_rfl) (fun _ _ _ h => no_panic h.1) (yields_of rfl (fun w' hw' => by go_split_ands; go_simp)) hS0 ?_
    try simp only [List.getElem_toArray, List.getElem_cons_succ, List.getElem_cons_zero, Act.put, List.setIfInBounds_toArray, List.set_cons_succ, List.set_cons_zero]
    refine wpAnyH_take (i := 2) (v := .pointer (some ⟨g, 0, none⟩)) rfl (by kernel_rfl) (by kernel_rfl) (by kernel_rfl) (fun _ _ _ h => no_panic h.1) (yields_of rfl (fun w' hw' => by go_split_ands; go_simp)) hS0 ?_
    try simp only [List.getElem_toArray, List.getElem_cons_succ, List.getElem_cons_zero, Act.put, List.setIfInBounds_toArray, List.set_cons_succ, List.set_cons_zero]
    refine wpAnyH_take (i := 3) (v := .pointer (some ⟨g, 0, none⟩)) rfl (by kernel_rfl) (by kernel_rfl) (by kernel_rfl) (fun _ _ _ h => no_panic h.1) (yields_of rfl (fun w' hw' => by go_split_ands; go_simp)) hS0 ?_
    try simp only [List.getElem_toArray, List.getElem_cons_succ, List.getElem_cons_zero, Act.put, List.setIfInBounds_toArray, List.set_cons_succ, List.set_cons_zero]
    refine wpAnyH_take (i := 4) (v := .agg (bcells f).toArray) rfl (by kernel_rfl) (by kernel_rfl) (by kernel_rfl) (fun _ _ _ h => no_panic h.1) (yieldsIf_load_mid (by simp [Region.wanted]) 77 _ rfl g 0 rfl (bcells f) _ (fun _ h => h.1) under_flash rfl (by rw [size_flash, hbl])) hS0 ?_
    try simp only [List.getElem_toArray, List.getElem_cons_succ, List.getElem_cons_zero, Act.put, List.setIfInBounds_toArray, List.set_cons_succ, List.set_cons_zero]
    refine wpAnyH_take (i := 5) (v := .agg #[.bool r.gone, .bool r.ending, .int .i64 r.left]) rfl (by kernel_rfl) (by kernel_rfl) (by kernel_rfl) (fun _ _ _ h => no_panic h.1) (yieldsIf_load_mid (by simp [Region.wanted]) 79 _ rfl w.heap.size 0 rfl [.bool r.gone, .bool r.ending, .int .i64 r.left] _ (fun _ h => h.2.1) hu rfl size_power) hS0 ?_
    try simp only [List.getElem_toArray, List.getElem_cons_succ, List.getElem_cons_zero, Act.put, List.setIfInBounds_toArray, List.set_cons_succ, List.set_cons_zero]
    refine wpAnyH_take (i := 6) (v := .agg (dcells f r false ⟨#[]⟩).toArray) rfl (by kernel_rfl) (by kernel_rfl) (by kernel_rfl) (fun _ _ _ h => no_panic h.1) (yields_of rfl (fun w' hw' => by clear hw'; go_simp; rw [if_neg (by rw [dcells_length, hl]; omega), dev_power f r hl]; rfl)) hS0 ?_
    try simp only [List.getElem_toArray, List.getElem_cons_succ, List.getElem_cons_zero, Act.put, List.setIfInBounds_toArray, List.set_cons_succ, List.set_cons_zero]
    refine wpAnyH_take (i := 7) (v := .pointer (some ⟨g, 0, none⟩)) rfl (by kernel_rfl) (by kernel_rfl) (by kernel_rfl) (fun _ _ _ h => no_panic h.1) (yields_of rfl (fun w' hw' => by go_split_ands; go_simp)) hS0 ?_
    try simp only [List.getElem_toArray, List.getElem_cons_succ, List.getElem_cons_zero, Act.put, List.setIfInBounds_toArray, List.set_cons_succ, List.set_cons_zero]
    refine wpAnyH_ready (rs := [8]) (by kernel_rfl) (by simp) (AllReadyH.cons (i := 8) rfl (fun K hK => ?_) AllReadyH.nil)
    refine step_of rfl ?_
    try simp only [List.getElem_toArray, List.getElem_cons_succ, List.getElem_cons_zero, Act.put, List.setIfInBounds_toArray, List.set_cons_succ, List.set_cons_zero]
    refine wp_store_mid 81 _ _ rfl g 0 (dcells f r false ⟨#[]⟩).toArray rfl rfl (by rw [List.size_toArray, dcells_length, hl]; exact hS0.2.2) (by rw [size_dev, List.size_toArray, dcells_length, hl]) (all_oneCell_toArray (dcells_one _ _ _ _)) ?_
    refine hK.out _ _ hS1 (fun _ => ?_)
    simp only [Act.put]
    exact wpAnyH_done (by kernel_rfl) ⟨rfl, rfl, rfl⟩ _
  rintro _ _ _ ⟨rfl, rfl, rfl⟩
  go_wp2
  go_end0
  exact ⟨rfl, hRf, grown_setCells _ _ (grown_drew (grown_alloc (World.grownBy.refl _ _) _))⟩

theorem wp_act {P : Program} {c : Code} {Q : Exit → Act → World → Prop} {a a' : Act} {w : World} (h : a = a') (k : c.wp P Q a' w) : c.wp P Q a w := by
  rw [h]
  exact k
/-- the panic by which the power goes -/
def lostV : Value := .iface 133 (.agg #[])

set_option maxRecDepth 100000 in
set_option maxHeartbeats 1000000 in
theorem catch_lost (w : World) (b g : Nat) (f : List UInt8) (q : Pw) (u : Bool) (c : ByteArray) (tb : TypeId) (hB : Row w b [.pointer (some ⟨g, 0, none⟩)] tb) (hR : Row w g (dcells f q u c) 81) (hl : f.length = 200) :
    CallsD Tryd.prog 74 #[.pointer (some ⟨b, 0, none⟩)] (.panicking [{ v := lostV, recovered := false }]) w fun e u' w' =>
      e = .returned (.tuple #[]) ∧ u' = .panicking [{ v := lostV, recovered := true }] ∧ Row w' g (dcells f ⟨true, false, 0⟩ false ⟨#[]⟩) 81 ∧ w.grownBy w' (some g) := by
  have hta : ∀ W : World, (Instr.typeAssert (.iface 133 (.agg #[])) 20 133 true).run Tryd.prog W = .ok (.tuple #[.agg #[], .bool true]) W := fun _ => by kernel_rfl
  have hrs := fun W (h : Row W g (dcells f q u c) 81) => prog_restart W g f q ⟨true, false, 0⟩ u c h hl
  refine callsD_of_wpS Tryd.func74 rfl fun c₀ cs hu => ?_
  apply wpS_seq
  apply wpS_region
  simp [wpOpsS, go_sem, recoverD, hu, Tryd.ntmps74, Exit.thenS, lostV]
  refine wpS_of_wp ?_
  refine wp_act (a' := { tmps := #[.pointer (some ⟨b, 0, none⟩), .iface 133 (.agg #[]), undef, undef, .iface 133 (.agg #[]), undef, undef, undef, undef, undef, undef, undef, undef, undef, undef, undef, undef, undef], defers := [] }) (by rfl) ?_
  have hb : (w.alloc (.cells #[] 133)).cell? ⟨b, 0, none⟩ = some (.pointer (some ⟨g, 0, none⟩)) := (hB.alloc _).cell.trans rfl
  go_wp2_with (go_at_call 39; refine (hrs _ (hR.alloc _)).mono ?_; rintro _ w1 ⟨rfl, hr1, hg1⟩)
  have hgr : w.grownBy w1 (some g) := (grown_alloc (World.grownBy.refl _ _) _).trans hg1
  cases c₀
  simp_all [bodyPostS, results, Tryd.results74]

set_option maxRecDepth 100000 in
set_option maxHeartbeats 1000000 in
theorem catch_none (w : World) (b : Nat) :
    CallsD Tryd.prog 74 #[.pointer (some ⟨b, 0, none⟩)] .returning w fun e u' w' => e = .returned (.tuple #[]) ∧ u' = .returning ∧ w' = w := by
  refine callsD_of_wpS Tryd.func74 rfl fun c₀ cs hu => ?_
  apply wpS_seq
  apply wpS_region
  simp [wpOpsS, go_sem, recoverD, hu, Tryd.ntmps74, Exit.thenS]
  refine wpS_of_wp ?_
  go_wp2
  cases c₀
  simp_all [bodyPostS, results, Tryd.results74]
end Go.Proofs.YtaokemapkgggoaaDoor

namespace Go.Proofs.YtaokemapkgggoaaDoor
open Go.RowKit

set_option maxRecDepth 100000 in
set_option maxHeartbeats 1000000 in
theorem prog_wipe_deferred (w : World) (g : Nat) (l : List UInt8) (u : FrameMode) (hR : Row w g (bcells l) 75) (hl : l.length = 100) :
    CallsD Tryd.prog 75 #[.pointer (some ⟨g, 0, none⟩)] u w fun e u' w' => u' = u ∧ (e = .returned (.tuple #[]) ∧ w.grownBy w' (some g)) := by
  go_enter_d Tryd.func75, Tryd.ntmps75
  go_wp2_with (first | (refine wpList_buildZ rfl 75 rfl 100 (.int .u8 0) arr100b elem100b ?_; go_simp) | (refine wpList_storeR rfl 75 _ _ rfl g rfl (zrow 100 (.int .u8 0)) rfl 75 (bcells l) 100 (.int .u8 0) hR arr100b (zrow_length _ _) (by rw [bcells_length, hl]) (by rw [zrow_u8]; exact u8s_one _) ?_; go_simp))
  go_end0
  exact ⟨rfl, grown_setRow (World.grownBy.refl _ _) _⟩

theorem PdAt.half {w : World} {g : Nat} {d : Dv} (h : PdAt w g d) (f : d.fit) (ok : d.sound) {wh : Nat} (hw : wh = d.wh.toNat) : w.rangeAt g (100 * wh) (bcells d.k.img) := by
  rw [← f.img]
  rcases ok.wh with e | e
  · rw [if_pos e]
    obtain rfl : wh = 0 := by rw [hw, e]; rfl
    exact (dev_h0 h f.l0).at_
  · rw [if_neg (by omega)]
    obtain rfl : wh = 1 := by rw [hw, e]; rfl
    exact (dev_h1 h f.l0 f.l1).at_

set_option maxRecDepth 100000 in
set_option maxHeartbeats 1000000 in
/-- one command that ends, and its answer -/
theorem prog_obeyOn_yes (w : World) (g j : Nat) (d : Dv) (x : UInt8) (k : Int) (p : ByteArray) (E : Dv × Int × List UInt8) (HE : Hid (E = d.commandC k p)) (h : PdAt w g d) (f : d.fit) (ok : d.sound) (ho : d.off = false) (hG : ∀ w', Two g j w w' → Glob w') (hs : p.size < 100000) (hW : Row w j (bcells (d.k.raw x)) 75) (hgj : ¬ g = j) (hE : E.1.off = false) :
    Calls Tryd.prog 68 #[.pointer (some ⟨g, 0, none⟩), .pointer (some ⟨j, 0, none⟩), .int .u8 k, .string p] w fun r w' => r = .returned (.string (str (told E.2.1 E.2.2))) ∧ PdAt w' g E.1 ∧ Two g j w w' := by
  have hmf : ∀ (fn : Fn) (first cap : Array Value) (w : World), (Instr.makeFunc fn first cap).run Tryd.prog w = .ok (.func fn first cap) w := fun _ _ _ _ => rfl
  have hlen := d.commandC_len k p
  rw [← HE.out] at hlen
  obtain ⟨hl0, hl1, hl2⟩ := hlen
  have hA : Below w.heap.size w (w.alloc (.cells #[.pointer (some ⟨g, 0, none⟩)] 35)) := (Below.refl _ _).alloc (Nat.le_refl _) _
  have hdo := prog_doC (w.alloc (.cells #[.pointer (some ⟨g, 0, none⟩)] 35)) (w.alloc (.cells #[.pointer (some ⟨g, 0, none⟩)] 35)) g j d x k p E HE (h.below hA h.lt) f ok ho (hG _ (.ofB hA)) hs (hW.below hA hW.lt) hgj (Two.refl _ _ _)
  replace hdo := hdo.mono (fun r w' e => e.elim (fun a => a.2) (fun a => absurd (a.1.symm.trans hE) (by decide)) : ∀ r w', _ → r = .returned (.tuple #[.int .u8 E.2.1, .string (str E.2.2)]) ∧ PLeft (w.alloc (.cells #[.pointer (some ⟨g, 0, none⟩)] 35)) g j E.1 w')
  clear HE
  go_enter_defers Tryd.func68, Tryd.ntmps68
  go_wp2_with (first | (go_at_call 76; refine hdo.mono ?_; rintro _ w3 ⟨rfl, hl3⟩) | (go_at_call 53; refine (prog_answerOf w3 E.2.1 (str E.2.2) hl1 hl2 (by rw [str_size]; omega)).mono ?_; rintro _ w4 ⟨rfl, hb4⟩; rw [str_list]; obtain ⟨hd3, ⟨l3, hl3', hr3⟩, hg3⟩ := hl3; have hd4 := hd3.below hb4 hd3.lt; have hr4 := hr3.below hb4 hr3.lt; have hg4 := hg3.trans (.ofB hb4); clear hd3 hr3 hg3 hb4))
  refine leaves_cons (f := 75) (args := #[.pointer (some ⟨j, 0, none⟩)]) (by simp) (by simp [go_sem]) ?_
  refine (prog_wipe_deferred w4 j l3 .returning hr4 hl3').mono ?_
  rintro e u' w5 ⟨rfl, rfl, hg5⟩
  refine leaves_cons (f := 74) (args := #[.pointer (some ⟨w.heap.size, 0, none⟩)]) (by simp [settle]) (by simp [go_sem]) ?_
  refine (catch_none w5 w.heap.size).mono ?_
  rintro e u' w6 ⟨rfl, rfl, rfl⟩
  exact ⟨_, results_tmp rfl _ _ _, rfl, Row.grown hd4 hg5 hgj, (Two.ofB hA).trans (hg4.trans (.of2 hg5))⟩

set_option maxRecDepth 100000 in
set_option maxHeartbeats 1000000 in
/-- one command in whose middle the power goes -/
theorem prog_obeyOn_no (w : World) (g j : Nat) (d : Dv) (x : UInt8) (k : Int) (p : ByteArray) (E : Dv × Int × List UInt8) (HE : Hid (E = d.commandC k p)) (h : PdAt w g d) (f : d.fit) (ok : d.sound) (ho : d.off = false) (hG : ∀ w', Two g j w w' → Glob w') (hs : p.size < 100000) (hW : Row w j (bcells (d.k.raw x)) 75) (hgj : ¬ g = j) (hE : E.1.off = true) :
    Calls Tryd.prog 68 #[.pointer (some ⟨g, 0, none⟩), .pointer (some ⟨j, 0, none⟩), .int .u8 k, .string p] w fun r w' => r = .returned (.string ⟨#[]⟩) ∧ PdOff w' g E.1 ∧ Two g j w w' := by
  have hmf : ∀ (fn : Fn) (first cap : Array Value) (w : World), (Instr.makeFunc fn first cap).run Tryd.prog w = .ok (.func fn first cap) w := fun _ _ _ _ => rfl
  have hsd := (Dv.commandC_sound ok k p).1
  rw [← HE.out] at hsd
  have hA : Below w.heap.size w (w.alloc (.cells #[.pointer (some ⟨g, 0, none⟩)] 35)) := (Below.refl _ _).alloc (Nat.le_refl _) _
  have hdo := prog_doC (w.alloc (.cells #[.pointer (some ⟨g, 0, none⟩)] 35)) (w.alloc (.cells #[.pointer (some ⟨g, 0, none⟩)] 35)) g j d x k p E HE (h.below hA h.lt) f ok ho (hG _ (.ofB hA)) hs (hW.below hA hW.lt) hgj (Two.refl _ _ _)
  replace hdo := hdo.mono (fun r w' e => e.elim (fun a => absurd (a.1.symm.trans hE) (by decide)) (fun a => a.2) : ∀ r w', _ → r = lost ∧ PLost (w.alloc (.cells #[.pointer (some ⟨g, 0, none⟩)] 35)) g j E.1 w')
  clear HE
  have hgl := h.lt
  have hjl := hW.lt
  have HB0 : Hid (Row (w.alloc (.cells #[.pointer (some ⟨g, 0, none⟩)] 35)) w.heap.size [.pointer (some ⟨g, 0, none⟩)] 35) := Row.made w _ _
  go_enter_defers Tryd.func68, Tryd.ntmps68
  go_wp2_with (first | (go_at_call 76; refine hdo.mono ?_; rintro _ w3 ⟨hr3, hl3⟩; rw [lost_is] at hr3; subst hr3))
  obtain ⟨⟨q3, u3, c3, hd3⟩, ⟨l3, hl3', hr3⟩, hg3⟩ := hl3
  have HB3 : Row w3 w.heap.size [.pointer (some ⟨g, 0, none⟩)] 35 := Row.twoE HB0.out hg3 (by omega) (by omega)
  refine leaves_cons (f := 75) (args := #[.pointer (some ⟨j, 0, none⟩)]) (by simp) (by simp [go_sem]) ?_
  refine (prog_wipe_deferred w3 j l3 _ hr3 hl3').mono ?_
  rintro e u' w5 ⟨rfl, rfl, hg5⟩
  refine leaves_cons (f := 74) (args := #[.pointer (some ⟨w.heap.size, 0, none⟩)]) (by simp [settle]) (by simp [go_sem]) ?_
  refine (catch_lost w5 w.heap.size g _ q3 u3 c3 _ (Row.grown HB3 hg5 (by omega)) (Row.grown hd3 hg5 hgj) (by rw [List.length_append, Bs_len, Bs_len, hsd.s0, hsd.s1])).mono ?_
  rintro e u' w6 ⟨rfl, rfl, hr6, hg6⟩
  have hfin : Two g j w w6 := ((Two.ofB hA).trans (hg3.trans (.of2 hg5))).trans (.of1 hg6)
  simp [Leaves, settle, results, Tryd.results68, go_sem]
  exact ⟨⟨_, _, hr6⟩, hfin⟩

set_option maxRecDepth 100000 in
set_option maxHeartbeats 1000000 in
/-- one command and its answer, by the document's device -/
theorem prog_obeyC (w : World) (g : Nat) (d : Dv) (k : Int) (p : ByteArray) (E : Dv × Int × List UInt8) (HE : Hid (E = d.commandC k p)) (h : PdAt w g d) (f : d.fit) (ok : d.sound) (ho : d.off = false) (hG : ∀ w', w.grownBy w' (some g) → Glob w') (hs : p.size < 100000) :
    (E.1.off = false → Calls Tryd.prog 56 #[.pointer (some ⟨g, 0, none⟩), .int .u8 k, .string p] w fun r w' => r = .returned (.string (str (told E.2.1 E.2.2))) ∧ PdAt w' g E.1 ∧ w.grownBy w' (some g)) ∧
    (E.1.off = true → Calls Tryd.prog 56 #[.pointer (some ⟨g, 0, none⟩), .int .u8 k, .string p] w fun r w' => r = .returned (.string ⟨#[]⟩) ∧ PdOff w' g E.1 ∧ w.grownBy w' (some g)) := by
  obtain ⟨wh, HWH⟩ : ∃ wh : Nat, Hid (wh = d.wh.toNat) := ⟨_, rfl⟩
  have hw2 : wh < 2 := by rw [HWH.out]; rcases ok.wh with e | e <;> rw [e] <;> decide
  have hkp : keeps (Bs d.h0) (Bs d.h1) wh := by rw [HWH.out]; exact f.keeps
  have HLI : Hid (d.k.img.length = 100) := Kep.img_length ok.good
  have HIR : Hid (∃ y, d.k.img = d.k.raw y) := ⟨_, Kep.img_raw ok.good⟩
  have x1 := fun wx => run_indexFlash wx g 0 wh wh rfl hw2 (100 * wh) (by omega)
  obtain ⟨im, HIM⟩ : ∃ im, Hid (im = d.k.img) := ⟨_, rfl⟩
  have HLM : Hid ((bcells im).length = 100) := by show _ = _; rw [HIM.out, bcells_length, HLI.out]
  constructor
  all_goals
    intro hE
    go_enter Tryd.func56, Tryd.ntmps56
    go_wp2_with (first | (go_at_call 41; refine (prog_kept w g (Bs d.h0) (Bs d.h1) d.pw d.unl d.inn wh h f.l0 f.l1 hkp).mono ?_; rintro _ w1 ⟨rfl, n1, e1⟩; have hd1 : PdAt w1 g d := (by rw [e1]; exact h); have hg1 : w.grownBy w1 (some g) := (by rw [e1]; exact grown_of_below _ (below_drewN (Below.refl _ _) _)); have hr1 := hd1.half f ok HWH.out; rw [← HIM.out] at hr1; clear e1) | (refine wpList_load_mid rfl 75 _ rfl g (100 * wh) rfl (bcells im) _ hr1 under_img rfl (by rw [size_img, HLM.out]) ?_; go_simp) | (refine wpList_allocR rfl 75 rfl 100 (.int .u8 0) arr100b ?_; go_simp) | (refine wpList_storeMA rfl 75 _ _ rfl _ rfl rfl (bcells im) rfl 75 _ 100 (.int .u8 0) arr100b HLM.out (zrow_length _ _) (bcells_one _) ?_; intro w2 hr2 hb2; have hd2 : PdAt w2 g d := hd1.below hb2 hd1.lt; have hg2 : w.grownBy w2 (some g) := grown_below hg1 hb2; have hgj : ¬ g = w1.heap.size := (by have := hd1.lt; omega); have hjs : w.heap.size ≤ w1.heap.size := hg1.size; have hG2 : ∀ w', Two g w1.heap.size w2 w' → Glob w' := (fun w' ht => hG w' (Two.newer hg2 ht hjs)); clear hr1 hb2 hd1 hg1; go_simp) | (go_at_call 68; obtain ⟨y, hy⟩ := HIR.out; first | (refine (prog_obeyOn_yes w2 g w1.heap.size d y k p E HE hd2 f ok ho hG2 hs (by rw [← hy, ← HIM.out]; exact hr2) hgj hE).mono ?_; rintro _ w3 ⟨rfl, hl3, ht3⟩) | (refine (prog_obeyOn_no w2 g w1.heap.size d y k p E HE hd2 f ok ho hG2 hs (by rw [← hy, ← HIM.out]; exact hr2) hgj hE).mono ?_; rintro _ w3 ⟨rfl, hl3, ht3⟩)))
    go_ret
    exact ⟨rfl, hl3, Two.newer hg2 ht3 hjs⟩
end Go.Proofs.YtaokemapkgggoaaDoor
