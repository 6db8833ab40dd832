import Derived.Test.YtaokemapkgggoaaGreatDoorFd32
import Derived.Test.YtaokemapkgggoaaGreatDoorFd34
import Derived.Deep.RegionHeld3
namespace Go.Proofs.YtaokemapkgggoaaGreatDoor
open Go.RowKit

set_option maxRecDepth 100000 in
set_option maxHeartbeats 1000000 in
theorem prog_wipe_deferred (w : World) (g : Nat) (l : List UInt8) (u : FrameMode) (hR : Row w g (bcells l) 93) (hl : l.length = 100) :
    CallsD Tryz.prog 100 #[.pointer (some ⟨g, 0, none⟩)] u w fun e u' w' => u' = u ∧ (e = .returned (.tuple #[]) ∧ w.grownBy w' (some g)) := by
  go_enter_d Tryz.func100, Tryz.ntmps100
  go_wp2_with (first | (refine wpList_buildZ rfl 93 rfl 100 (.int .u8 0) arr100b elem100b ?_; go_simp) | (refine wpList_storeR rfl 93 _ _ rfl g rfl (zrow 100 (.int .u8 0)) rfl 93 (bcells l) 100 (.int .u8 0) hR arr100b (zrow_length _ _) (by rw [bcells_length, hl]) (by rw [zrow_u8]; exact u8s_one _) ?_; go_simp))
  go_end0
  exact ⟨rfl, grown_setRow (World.grownBy.refl _ _) _⟩

theorem PdAt.half {w : World} {g : Nat} {d : Dv} (h : PdAt w g d) (f : d.fit) (ok : d.sound) {wh : Nat} (hw : wh = d.wh.toNat) : w.rangeAt g (100 * wh) (bcells d.k.img) := by
  rw [← f.img]
  rcases ok.wh with e | e
  · rw [if_pos e]
    obtain rfl : wh = 0 := by rw [hw, e]; rfl
    exact (dev_h0 h f.l0).at_
  · rw [if_neg (by omega)]
    obtain rfl : wh = 1 := by rw [hw, e]; rfl
    exact (dev_h1 h f.l0 f.l1).at_

set_option maxRecDepth 100000 in
set_option maxHeartbeats 1000000 in
/-- one command that ends, and its answer -/
theorem prog_obeyOn_yes (w : World) (g j : Nat) (d : Dv) (x : UInt8) (k : Int) (p : ByteArray) (E : Dv × Int × List UInt8) (HE : Hid (E = d.commandC k p)) (h : PdAt w g d) (f : d.fit) (ok : d.sound) (ho : d.off = false) (hG : ∀ w', Two g j w w' → Glob w') (hs : p.size < 100000) (hW : Row w j (bcells (d.k.raw x)) 93) (hgj : ¬ g = j) (hE : E.1.off = false) :
    Calls Tryz.prog 95 #[.pointer (some ⟨g, 0, none⟩), .pointer (some ⟨j, 0, none⟩), .int .u8 k, .string p] w fun r w' => r = .returned (.string (str (told E.2.1 E.2.2))) ∧ PdAt w' g E.1 ∧ Two g j w w' := by
  have hmf : ∀ (fn : Fn) (first cap : Array Value) (w : World), (Instr.makeFunc fn first cap).run Tryz.prog w = .ok (.func fn first cap) w := fun _ _ _ _ => rfl
  have hlen := d.commandC_len k p
  rw [← HE.out] at hlen
  obtain ⟨hl0, hl1, hl2⟩ := hlen
  have hA : Below w.heap.size w (w.alloc (.cells #[.pointer (some ⟨g, 0, none⟩)] 38)) := (Below.refl _ _).alloc (Nat.le_refl _) _
  have hdo := prog_doC (w.alloc (.cells #[.pointer (some ⟨g, 0, none⟩)] 38)) (w.alloc (.cells #[.pointer (some ⟨g, 0, none⟩)] 38)) g j d x k p E HE (h.below hA h.lt) f ok ho (hG _ (.ofB hA)) hs (hW.below hA hW.lt) hgj (Two.refl _ _ _)
  replace hdo := hdo.mono (fun r w' e => e.elim (fun a => a.2) (fun a => absurd (a.1.symm.trans hE) (by decide)) : ∀ r w', _ → r = .returned (.tuple #[.int .u8 E.2.1, .string (str E.2.2)]) ∧ PLeft (w.alloc (.cells #[.pointer (some ⟨g, 0, none⟩)] 38)) g j E.1 w')
  clear HE
  go_enter_defers Tryz.func95, Tryz.ntmps95
  go_wp2_with (first | (go_at_call 101; refine hdo.mono ?_; rintro _ w3 ⟨rfl, hl3⟩) | (go_at_call 77; refine (prog_answerOf w3 E.2.1 (str E.2.2) hl1 hl2 (by rw [str_size]; omega)).mono ?_; rintro _ w4 ⟨rfl, hb4⟩; rw [str_list]; obtain ⟨hd3, ⟨l3, hl3', hr3⟩, hg3⟩ := hl3; have hd4 := hd3.below hb4 hd3.lt; have hr4 := hr3.below hb4 hr3.lt; have hg4 := hg3.trans (.ofB hb4); clear hd3 hr3 hg3 hb4))
  refine leaves_cons (f := 100) (args := #[.pointer (some ⟨j, 0, none⟩)]) (by simp) (by simp [go_sem]) ?_
  refine (prog_wipe_deferred w4 j l3 .returning hr4 hl3').mono ?_
  rintro e u' w5 ⟨rfl, rfl, hg5⟩
  refine leaves_cons (f := 99) (args := #[.pointer (some ⟨w.heap.size, 0, none⟩)]) (by simp [settle]) (by simp [go_sem]) ?_
  refine (catch_none w5 w.heap.size).mono ?_
  rintro e u' w6 ⟨rfl, rfl, rfl⟩
  exact ⟨_, results_tmp rfl _ _ _, rfl, Row.grown hd4 hg5 hgj, (Two.ofB hA).trans (hg4.trans (.of2 hg5))⟩

set_option maxRecDepth 100000 in
set_option maxHeartbeats 1000000 in
/-- one command in whose middle the power goes -/
theorem prog_obeyOn_no (w : World) (g j : Nat) (d : Dv) (x : UInt8) (k : Int) (p : ByteArray) (E : Dv × Int × List UInt8) (HE : Hid (E = d.commandC k p)) (h : PdAt w g d) (f : d.fit) (ok : d.sound) (ho : d.off = false) (hG : ∀ w', Two g j w w' → Glob w') (hs : p.size < 100000) (hW : Row w j (bcells (d.k.raw x)) 93) (hgj : ¬ g = j) (hE : E.1.off = true) :
    Calls Tryz.prog 95 #[.pointer (some ⟨g, 0, none⟩), .pointer (some ⟨j, 0, none⟩), .int .u8 k, .string p] w fun r w' => r = .returned (.string ⟨#[]⟩) ∧ PdOff w' g E.1 ∧ Two g j w w' := by
  have hmf : ∀ (fn : Fn) (first cap : Array Value) (w : World), (Instr.makeFunc fn first cap).run Tryz.prog w = .ok (.func fn first cap) w := fun _ _ _ _ => rfl
  have hsd := (Dv.commandC_sound ok k p).1
  rw [← HE.out] at hsd
  have hA : Below w.heap.size w (w.alloc (.cells #[.pointer (some ⟨g, 0, none⟩)] 38)) := (Below.refl _ _).alloc (Nat.le_refl _) _
  have hdo := prog_doC (w.alloc (.cells #[.pointer (some ⟨g, 0, none⟩)] 38)) (w.alloc (.cells #[.pointer (some ⟨g, 0, none⟩)] 38)) g j d x k p E HE (h.below hA h.lt) f ok ho (hG _ (.ofB hA)) hs (hW.below hA hW.lt) hgj (Two.refl _ _ _)
  replace hdo := hdo.mono (fun r w' e => e.elim (fun a => absurd (a.1.symm.trans hE) (by decide)) (fun a => a.2) : ∀ r w', _ → r = lost ∧ PLost (w.alloc (.cells #[.pointer (some ⟨g, 0, none⟩)] 38)) g j E.1 w')
  clear HE
  have hgl := h.lt
  have hjl := hW.lt
  have HB0 : Hid (Row (w.alloc (.cells #[.pointer (some ⟨g, 0, none⟩)] 38)) w.heap.size [.pointer (some ⟨g, 0, none⟩)] 38) := Row.made w _ _
  go_enter_defers Tryz.func95, Tryz.ntmps95
  go_wp2_with (first | (go_at_call 101; refine hdo.mono ?_; rintro _ w3 ⟨hr3, hl3⟩; rw [lost_is] at hr3; subst hr3))
  obtain ⟨⟨q3, u3, c3, hd3⟩, ⟨l3, hl3', hr3⟩, hg3⟩ := hl3
  have HB3 : Row w3 w.heap.size [.pointer (some ⟨g, 0, none⟩)] 38 := Row.twoE HB0.out hg3 (by omega) (by omega)
  refine leaves_cons (f := 100) (args := #[.pointer (some ⟨j, 0, none⟩)]) (by simp) (by simp [go_sem]) ?_
  refine (prog_wipe_deferred w3 j l3 _ hr3 hl3').mono ?_
  rintro e u' w5 ⟨rfl, rfl, hg5⟩
  refine leaves_cons (f := 99) (args := #[.pointer (some ⟨w.heap.size, 0, none⟩)]) (by simp [settle]) (by simp [go_sem]) ?_
  refine (catch_lost w5 w.heap.size g _ q3 u3 c3 _ (Row.grown HB3 hg5 (by omega)) (Row.grown hd3 hg5 hgj) (by rw [List.length_append, Bs_len, Bs_len, hsd.s0, hsd.s1])).mono ?_
  rintro e u' w6 ⟨rfl, rfl, hr6, hg6⟩
  have hfin : Two g j w w6 := ((Two.ofB hA).trans (hg3.trans (.of2 hg5))).trans (.of1 hg6)
  simp [Leaves, settle, results, Tryz.results95, go_sem]
  exact ⟨⟨_, _, hr6⟩, hfin⟩

set_option maxRecDepth 100000 in
set_option maxHeartbeats 1000000 in
/-- one command and its answer, by the document's device -/
theorem prog_obeyC (w : World) (g : Nat) (d : Dv) (k : Int) (p : ByteArray) (E : Dv × Int × List UInt8) (HE : Hid (E = d.commandC k p)) (h : PdAt w g d) (f : d.fit) (ok : d.sound) (ho : d.off = false) (hG : ∀ w', w.grownBy w' (some g) → Glob w') (hs : p.size < 100000) :
    (E.1.off = false → Calls Tryz.prog 80 #[.pointer (some ⟨g, 0, none⟩), .int .u8 k, .string p] w fun r w' => r = .returned (.string (str (told E.2.1 E.2.2))) ∧ PdAt w' g E.1 ∧ w.grownBy w' (some g)) ∧
    (E.1.off = true → Calls Tryz.prog 80 #[.pointer (some ⟨g, 0, none⟩), .int .u8 k, .string p] w fun r w' => r = .returned (.string ⟨#[]⟩) ∧ PdOff w' g E.1 ∧ w.grownBy w' (some g)) := by
  obtain ⟨wh, HWH⟩ : ∃ wh : Nat, Hid (wh = d.wh.toNat) := ⟨_, rfl⟩
  have hw2 : wh < 2 := by rw [HWH.out]; rcases ok.wh with e | e <;> rw [e] <;> decide
  have hkp : keeps (Bs d.h0) (Bs d.h1) wh := by rw [HWH.out]; exact f.keeps
  have HLI : Hid (d.k.img.length = 100) := Kep.img_length ok.good
  have HIR : Hid (∃ y, d.k.img = d.k.raw y) := ⟨_, Kep.img_raw ok.good⟩
  have x1 := fun wx => run_indexFlash wx g 0 wh wh rfl hw2 (100 * wh) (by omega)
  obtain ⟨im, HIM⟩ : ∃ im, Hid (im = d.k.img) := ⟨_, rfl⟩
  have HLM : Hid ((bcells im).length = 100) := by show _ = _; rw [HIM.out, bcells_length, HLI.out]
  constructor
  all_goals
    intro hE
    go_enter Tryz.func80, Tryz.ntmps80
    go_wp2_with (first | (go_at_call 54; refine (prog_kept w g (Bs d.h0) (Bs d.h1) d.pw d.unl d.inn wh h f.l0 f.l1 hkp).mono ?_; rintro _ w1 ⟨rfl, n1, e1⟩; have hd1 : PdAt w1 g d := (by rw [e1]; exact h); have hg1 : w.grownBy w1 (some g) := (by rw [e1]; exact grown_of_below _ (below_drewN (Below.refl _ _) _)); have hr1 := hd1.half f ok HWH.out; rw [← HIM.out] at hr1; clear e1) | (refine wpList_load_mid rfl 93 _ rfl g (100 * wh) rfl (bcells im) _ hr1 under_img rfl (by rw [size_img, HLM.out]) ?_; go_simp) | (refine wpList_allocR rfl 93 rfl 100 (.int .u8 0) arr100b ?_; go_simp) | (refine wpList_storeMA rfl 93 _ _ rfl _ rfl rfl (bcells im) rfl 93 _ 100 (.int .u8 0) arr100b HLM.out (zrow_length _ _) (bcells_one _) ?_; intro w2 hr2 hb2; have hd2 : PdAt w2 g d := hd1.below hb2 hd1.lt; have hg2 : w.grownBy w2 (some g) := grown_below hg1 hb2; have hgj : ¬ g = w1.heap.size := (by have := hd1.lt; omega); have hjs : w.heap.size ≤ w1.heap.size := hg1.size; have hG2 : ∀ w', Two g w1.heap.size w2 w' → Glob w' := (fun w' ht => hG w' (Two.newer hg2 ht hjs)); clear hr1 hb2 hd1 hg1; go_simp) | (go_at_call 95; obtain ⟨y, hy⟩ := HIR.out; first | (refine (prog_obeyOn_yes w2 g w1.heap.size d y k p E HE hd2 f ok ho hG2 hs (by rw [← hy, ← HIM.out]; exact hr2) hgj hE).mono ?_; rintro _ w3 ⟨rfl, hl3, ht3⟩) | (refine (prog_obeyOn_no w2 g w1.heap.size d y k p E HE hd2 f ok ho hG2 hs (by rw [← hy, ← HIM.out]; exact hr2) hgj hE).mono ?_; rintro _ w3 ⟨rfl, hl3, ht3⟩)))
    go_ret
    exact ⟨rfl, hl3, Two.newer hg2 ht3 hjs⟩
end Go.Proofs.YtaokemapkgggoaaGreatDoor

set_option linter.unusedSimpArgs false
namespace Go.Proofs.YtaokemapkgggoaaGreatDoor
open Go.RowKit

section
variable {P : Program} {o : Oper} {a : Act} {w w' : World} {K : Act → World → Prop} {Q : Exit → Act → World → Prop}
end

/-- a key in an image -/
def keyL (l : List UInt8) (o : Nat) : ByteArray := str ((l.drop (o + 1)).take (bAt l o).toNat)
/-- what an image says -/
def readK (l : List UInt8) : Kep := ⟨numOf l, bAt l 5, str ((l.drop 7).take (bAt l 6).toNat), keyL l 15, keyL l 36, keyL l 57, keyL l 78⟩
def zeroK : Kep := ⟨0, 0, ⟨#[]⟩, ⟨#[]⟩, ⟨#[]⟩, ⟨#[]⟩, ⟨#[]⟩⟩
/-- an image is right -/
abbrev readOk (l : List UInt8) : Prop := (¬ numOf l = 0 ∧ bAt l 5 ≤ 5 ∧ 1 ≤ bAt l 6 ∧ bAt l 6 ≤ 8) ∧ (bAt l 15 ≤ 20 ∧ bAt l 36 ≤ 20 ∧ bAt l 57 ≤ 20 ∧ bAt l 78 ≤ 20) ∧ (readK l).img = l
end Go.Proofs.YtaokemapkgggoaaGreatDoor
