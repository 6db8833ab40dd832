import Derived.Test.YteebdelngddceaaGreatDoorF35
import Derived.Defers
namespace Go.Proofs.YteebdelngddceaaGreatDoor
open Go.RowKit

theorem Dv.command_no {d : Dv} {k : Int} {p : ByteArray} (h1 : ¬ k = 1) (h2 : ¬ k = 2) (h3 : ¬ k = 3) (h4 : ¬ k = 4) (h5 : ¬ k = 5) (h6 : ¬ k = 6) (h7 : ¬ k = 7) : d.command k p = (d, 6, []) := by
  unfold Dv.command
  rw [if_neg h1, if_neg h2, if_neg h7, if_neg (by omega), if_neg h6]
theorem Dv.command2_nil (d : Dv) (p : ByteArray) : (d.command 2 p).2.2 = [] := by
  unfold Dv.command
  rw [if_neg (by omega), if_pos rfl]
  split <;> rfl

set_option maxRecDepth 100000 in
set_option maxHeartbeats 1000000 in
/-- one command, by the document's device -/
theorem prog_doD (w0 w : World) (g j : Nat) (d : Dv) (x : UInt8) (k : Int) (p : ByteArray) (h : PdAt w g d) (f : d.fit) (ok : d.ok) (hG : Glob w) (hs : p.size < 100000) (hW : Row w j (bcells (d.k.raw x)) 93) (hgj : ¬ g = j) (hgr : w0.grownBy w (some g)) (hj : w0.heap.size ≤ j) :
    Calls Tryz.prog 94 #[.pointer (some ⟨g, 0, none⟩), .pointer (some ⟨j, 0, none⟩), .int .u8 k, .string p] w fun r w' => r = .returned (.tuple #[.int .u8 (d.command k p).2.1, .string (str (d.command k p).2.2)]) ∧ PLeft w0 g j (d.command k p).1 w' := by
  have hq : ∀ w', Below w.heap.size w w' → PLeft w0 g j d w' := fun w' hb => ⟨h.below hb h.lt, ⟨_, Kep.raw_length ok.good, hW.below hb hW.lt⟩, grown_below hgr hb⟩
  have hjg : ¬ j = g := fun e => hgj e.symm
  by_cases h1 : k = 1
  · subst h1
    have hc := prog_unlockD w0 w g j d x p h f ok hW hgj hgr hj
    obtain ⟨E, HE⟩ : ∃ E, Hid (E = d.command 1 p) := ⟨_, rfl⟩
    rw [← HE.out] at hc ⊢
    go_enter Tryz.func94, Tryz.ntmps94
    go_wp2_with (go_at_call 98; refine hc.mono ?_; rintro _ w1 ⟨rfl, hl⟩)
    go_ret2
    exact ⟨rfl, hl⟩
  by_cases h2 : k = 2
  · subst h2
    have hc := prog_lock w g d p h f
    have hn := d.command2_nil p
    obtain ⟨E, HE⟩ : ∃ E, Hid (E = d.command 2 p) := ⟨_, rfl⟩
    rw [← HE.out] at hc hn ⊢
    go_enter Tryz.func94, Tryz.ntmps94
    go_wp2_with (go_at_call 99; refine hc.mono ?_; rintro _ w1 ⟨rfl, hl, hg⟩)
    go_ret2
    exact ⟨by rw [hn]; rfl, hl, ⟨_, Kep.raw_length ok.good, Row.grown hW hg hjg⟩, hgr.trans hg⟩
  by_cases h3 : k = 3
  · subst h3
    have hc := prog_setD w0 w g j d x p h f ok hW hgj hgr hj
    obtain ⟨E, HE⟩ : ∃ E, Hid (E = d.command 3 p) := ⟨_, rfl⟩
    rw [← HE.out] at hc ⊢
    go_enter Tryz.func94, Tryz.ntmps94
    go_wp2_with (go_at_call 100; refine hc.mono ?_; rintro _ w1 ⟨rfl, hn, hl⟩)
    go_ret2
    exact ⟨by rw [hn]; rfl, hl⟩
  by_cases h4 : k = 4
  · subst h4
    have hc := prog_sealD w g j d x p h f ok hG hs hW
    obtain ⟨E, HE⟩ : ∃ E, Hid (E = d.command 4 p) := ⟨_, rfl⟩
    rw [← HE.out] at hc ⊢
    go_enter Tryz.func94, Tryz.ntmps94
    go_wp2_with (go_at_call 101; refine hc.mono ?_; rintro _ w1 ⟨rfl, hn, hl⟩)
    go_ret2
    exact ⟨rfl, by rw [hn]; exact hq _ hl⟩
  by_cases h5 : k = 5
  · subst h5
    have hc := prog_codeD w g j d x p h f ok hG hW
    obtain ⟨E, HE⟩ : ∃ E, Hid (E = d.command 5 p) := ⟨_, rfl⟩
    rw [← HE.out] at hc ⊢
    go_enter Tryz.func94, Tryz.ntmps94
    go_wp2_with (go_at_call 102; refine hc.mono ?_; rintro _ w1 ⟨rfl, hn, hl⟩)
    go_ret2
    exact ⟨rfl, by rw [hn]; exact hq _ hl⟩
  by_cases h6 : k = 6
  · subst h6
    have hc := prog_setPinD w0 w g j d x p h f ok hW hgj hgr hj
    obtain ⟨E, HE⟩ : ∃ E, Hid (E = d.command 6 p) := ⟨_, rfl⟩
    rw [← HE.out] at hc ⊢
    go_enter Tryz.func94, Tryz.ntmps94
    go_wp2_with (go_at_call 103; refine hc.mono ?_; rintro _ w1 ⟨rfl, hn, hl⟩)
    go_ret2
    exact ⟨by rw [hn]; rfl, hl⟩
  by_cases h7 : k = 7
  · subst h7
    have hc := prog_tell w g j d x p h f ok hW
    obtain ⟨E, HE⟩ : ∃ E, Hid (E = d.command 7 p) := ⟨_, rfl⟩
    rw [← HE.out] at hc ⊢
    go_enter Tryz.func94, Tryz.ntmps94
    go_wp2_with (go_at_call 104; refine hc.mono ?_; rintro _ w1 ⟨rfl, hn, hl⟩)
    go_ret2
    exact ⟨rfl, by rw [hn]; exact hq _ hl⟩
  · rw [Dv.command_no h1 h2 h3 h4 h5 h6 h7]
    go_enter Tryz.func94, Tryz.ntmps94
    go_wp2
    go_ret2
    exact ⟨rfl, hq _ (Below.refl _ _)⟩
end Go.Proofs.YteebdelngddceaaGreatDoor

namespace Go.Proofs.YteebdelngddceaaGreatDoor
open Go.RowKit

set_option maxRecDepth 100000 in
set_option maxHeartbeats 1000000 in
theorem prog_wipe_deferred (w : World) (g : Nat) (l : List UInt8) (u : FrameMode) (hR : Row w g (bcells l) 93) (hl : l.length = 100) :
    CallsD Tryz.prog 93 #[.pointer (some ⟨g, 0, none⟩)] u w fun e u' w' => u' = u ∧ (e = .returned (.tuple #[]) ∧ w.grownBy w' (some g)) := by
  go_enter_d Tryz.func93, Tryz.ntmps93
  go_wp2_with (first | (refine wpList_buildZ rfl 93 rfl 100 (.int .u8 0) arr100b elem100b ?_; go_simp) | (refine wpList_storeR rfl 93 _ _ rfl g rfl (zrow 100 (.int .u8 0)) rfl 93 (bcells l) 100 (.int .u8 0) hR arr100b (zrow_length _ _) (by rw [bcells_length, hl]) (by rw [zrow_u8]; exact u8s_one _) ?_; go_simp))
  go_end0
  exact ⟨rfl, grown_setRow (World.grownBy.refl _ _) _⟩

theorem PdAt.half {w : World} {g : Nat} {d : Dv} (h : PdAt w g d) (f : d.fit) (ok : d.ok) {wh : Nat} (hw : wh = d.wh.toNat) : w.rangeAt g (100 * wh) (bcells d.k.img) := by
  rw [← f.img]
  rcases ok.wh with e | e
  · rw [if_pos e]
    obtain rfl : wh = 0 := by rw [hw, e]; rfl
    exact (dev_h0 h f.l0).at_
  · rw [if_neg (by omega)]
    obtain rfl : wh = 1 := by rw [hw, e]; rfl
    exact (dev_h1 h f.l0 f.l1).at_

set_option maxRecDepth 100000 in
set_option maxHeartbeats 1000000 in
/-- one command and its answer, by the document's device -/
theorem prog_obeyD (w : World) (g : Nat) (d : Dv) (k : Int) (p : ByteArray) (h : PdAt w g d) (f : d.fit) (ok : d.ok) (hG : Glob w) (hs : p.size < 100000) :
    Calls Tryz.prog 78 #[.pointer (some ⟨g, 0, none⟩), .int .u8 k, .string p] w fun r w' => r = .returned (.string (str (told (d.command k p).2.1 (d.command k p).2.2))) ∧ PdAt w' g (d.command k p).1 ∧ w.grownBy w' (some g) := by
  obtain ⟨wh, HWH⟩ : ∃ wh : Nat, Hid (wh = d.wh.toNat) := ⟨_, rfl⟩
  have hw2 : wh < 2 := by rw [HWH.out]; rcases ok.wh with e | e <;> rw [e] <;> decide
  have hkp : keeps (Bs d.h0) (Bs d.h1) wh := by rw [HWH.out]; exact f.keeps
  have HLI : Hid (d.k.img.length = 100) := Kep.img_length ok.good
  have HIR : Hid (∃ y, d.k.img = d.k.raw y) := ⟨_, Kep.img_raw ok.good⟩
  have hlen := d.command_len k p
  obtain ⟨E, HE⟩ : ∃ E, Hid (E = d.command k p) := ⟨_, rfl⟩
  rw [← HE.out] at hlen ⊢
  obtain ⟨hl0, hl1, hl2⟩ := hlen
  have x1 := fun wx => run_indexFlash wx g 0 wh wh rfl hw2 (100 * wh) (by omega)
  obtain ⟨im, HIM⟩ : ∃ im, Hid (im = d.k.img) := ⟨_, rfl⟩
  have HLM : Hid ((bcells im).length = 100) := by show _ = _; rw [HIM.out, bcells_length, HLI.out]
  go_enter_defers Tryz.func78, Tryz.ntmps78
  go_wp2_with (first | (go_at_call 53; refine (prog_kept w g (Bs d.h0) (Bs d.h1) d.unl d.inn wh h f.l0 f.l1 hkp).mono ?_; rintro _ w1 ⟨rfl, n1, e1⟩; have hd1 : PdAt w1 g d := (by rw [e1]; exact h); have hg1 : w.grownBy w1 (some g) := (by rw [e1]; exact grown_of_below _ (below_drewN (Below.refl _ _) _)); have hG1 : Glob w1 := (by rw [e1]; exact ⟨hG.h, hG.k⟩); have hr1 := hd1.half f ok HWH.out; rw [← HIM.out] at hr1; clear e1) | (refine wpList_load_mid rfl 93 _ rfl g (100 * wh) rfl (bcells im) _ hr1 under_img rfl (by rw [size_img, HLM.out]) ?_; go_simp) | (refine wpList_allocR rfl 93 rfl 100 (.int .u8 0) arr100b ?_; go_simp) | (refine wpList_storeMA rfl 93 _ _ rfl _ rfl rfl (bcells im) rfl 93 _ 100 (.int .u8 0) arr100b HLM.out (zrow_length _ _) (bcells_one _) ?_; intro w2 hr2 hb2; have hd2 : PdAt w2 g d := hd1.below hb2 hd1.lt; have hg2 : w.grownBy w2 (some g) := grown_below hg1 hb2; have hG2 : Glob w2 := hG1.below hb2 (Nat.le_refl _); have hgj : ¬ g = w1.heap.size := (by have := hd1.lt; omega); have hjs : w.heap.size ≤ w1.heap.size := hg1.size; clear hr1 hb2 hd1 hg1 hG1; go_simp) | (go_at_call 94; obtain ⟨y, hy⟩ := HIR.out; refine (prog_doD w w2 g w1.heap.size d y k p hd2 f ok hG2 hs (by rw [← hy, ← HIM.out]; exact hr2) hgj hg2 hjs).mono ?_; rw [← HE.out]; rintro _ w3 ⟨rfl, hl3⟩) | (go_at_call 75; refine (prog_answerOf w3 E.2.1 (str E.2.2) hl1 hl2 (by rw [str_size]; omega)).mono ?_; rintro _ w4 ⟨rfl, hb4⟩; rw [str_list]; obtain ⟨hd3, ⟨l3, hl3', hr3⟩, hg3⟩ := hl3; have hd4 := hd3.below hb4 hd3.lt; have hr4 := hr3.below hb4 hr3.lt; have hg4 := grown_below hg3 hb4; clear hd3 hr3 hg3 hb4))
  refine leaves_cons (f := 93) (args := #[.pointer (some ⟨w1.heap.size, 0, none⟩)]) (by simp) (by simp [go_sem]) ?_
  refine (prog_wipe_deferred w4 w1.heap.size l3 .returning hr4 hl3').mono ?_
  rintro e u' w5 ⟨rfl, rfl, hg5⟩
  exact ⟨_, results_tmp rfl _ _ _, rfl, Row.grown hd4 hg5 hgj, hg4.andThen hg5 (fun k hk => .inl (by cases hk; exact hjs))⟩
end Go.Proofs.YteebdelngddceaaGreatDoor
