import Derived.Test.YtaokemapkgggoaaDoorGd26
import Derived.Test.YtaokemapkgggoaaDoorGd18
import Derived.Test.YtaokemapkgggoaaDoorGd19
import Derived.Test.YtaokemapkgggoaaDoorGd20
import Derived.Test.YtaokemapkgggoaaDoorGd15
import Derived.Lib.Builder
import Derived.Laws.Externs
import Derived.Shelf.Strings.Builder1
import Derived.Shelf.LaysM
import Derived.Shelf.Strconv.Clone
namespace Go.Proofs.YtaokemapkgggoaaDoor
open Go.RowKit

set_option maxRecDepth 100000 in
set_option maxHeartbeats 1000000 in
theorem prog_wipe_deferred (w : World) (g : Nat) (l : List UInt8) (u : FrameMode) (hR : Row w g (bcells l) 75) (hl : l.length = 100) :
    CallsD Tryd.prog 75 #[.pointer (some ⟨g, 0, none⟩)] u w fun e u' w' => u' = u ∧ (e = .returned (.tuple #[]) ∧ w.grownBy w' (some g)) := by
  go_enter_d Tryd.func75, Tryd.ntmps75
  go_wp2_with (first | (refine wpList_buildZ rfl 75 rfl 100 (.int .u8 0) arr100b elem100b ?_; go_simp) | (refine wpList_storeR rfl 75 _ _ rfl g rfl (zrow 100 (.int .u8 0)) rfl 75 (bcells l) 100 (.int .u8 0) hR arr100b (zrow_length _ _) (by rw [bcells_length, hl]) (by rw [zrow_u8]; exact u8s_one _) ?_; go_simp))
  go_end0
  exact ⟨rfl, grown_setRow (World.grownBy.refl _ _) _⟩

theorem PdAt.half {w : World} {g : Nat} {d : Dv} (h : PdAt w g d) (f : d.fit) (ok : d.sound) {wh : Nat} (hw : wh = d.wh.toNat) : w.rangeAt g (100 * wh) (bcells d.k.img) := by
  rw [← f.img]
  rcases ok.wh with e | e
  · rw [if_pos e]
    obtain rfl : wh = 0 := by rw [hw, e]; rfl
    exact (dev_h0 h f.l0).at_
  · rw [if_neg (by omega)]
    obtain rfl : wh = 1 := by rw [hw, e]; rfl
    exact (dev_h1 h f.l0 f.l1).at_

set_option maxRecDepth 100000 in
set_option maxHeartbeats 1000000 in
/-- one command that ends, and its answer -/
theorem prog_obeyOn_yes (w : World) (g j : Nat) (d : Dv) (x : UInt8) (k : Int) (p : ByteArray) (E : Dv × Int × List UInt8) (HE : Hid (E = d.commandC k p)) (h : PdAt w g d) (f : d.fit) (ok : d.sound) (ho : d.off = false) (hG : ∀ w', Two g j w w' → Glob w') (hs : p.size < 100000) (hW : Row w j (bcells (d.k.raw x)) 75) (hgj : ¬ g = j) (hE : E.1.off = false) :
    Calls Tryd.prog 68 #[.pointer (some ⟨g, 0, none⟩), .pointer (some ⟨j, 0, none⟩), .int .u8 k, .string p] w fun r w' => r = .returned (.string (str (told E.2.1 E.2.2))) ∧ PdAt w' g E.1 ∧ Two g j w w' := by
  have hmf : ∀ (fn : Fn) (first cap : Array Value) (w : World), (Instr.makeFunc fn first cap).run Tryd.prog w = .ok (.func fn first cap) w := fun _ _ _ _ => rfl
  have hlen := d.commandC_len k p
  rw [← HE.out] at hlen
  obtain ⟨hl0, hl1, hl2⟩ := hlen
  have hA : Below w.heap.size w (w.alloc (.cells #[.pointer (some ⟨g, 0, none⟩)] 35)) := (Below.refl _ _).alloc (Nat.le_refl _) _
  have hdo := prog_doC (w.alloc (.cells #[.pointer (some ⟨g, 0, none⟩)] 35)) (w.alloc (.cells #[.pointer (some ⟨g, 0, none⟩)] 35)) g j d x k p E HE (h.below hA h.lt) f ok ho (hG _ (.ofB hA)) hs (hW.below hA hW.lt) hgj (Two.refl _ _ _)
  replace hdo := hdo.mono (fun r w' e => e.elim (fun a => a.2) (fun a => absurd (a.1.symm.trans hE) (by decide)) : ∀ r w', _ → r = .returned (.tuple #[.int .u8 E.2.1, .string (str E.2.2)]) ∧ PLeft (w.alloc (.cells #[.pointer (some ⟨g, 0, none⟩)] 35)) g j E.1 w')
  clear HE
  go_enter_defers Tryd.func68, Tryd.ntmps68
  go_wp2_with (first | (go_at_call 76; refine hdo.mono ?_; rintro _ w3 ⟨rfl, hl3⟩) | (go_at_call 53; refine (prog_answerOf w3 E.2.1 (str E.2.2) hl1 hl2 (by rw [str_size]; omega)).mono ?_; rintro _ w4 ⟨rfl, hb4⟩; rw [str_list]; obtain ⟨hd3, ⟨l3, hl3', hr3⟩, hg3⟩ := hl3; have hd4 := hd3.below hb4 hd3.lt; have hr4 := hr3.below hb4 hr3.lt; have hg4 := hg3.trans (.ofB hb4); clear hd3 hr3 hg3 hb4))
  refine leaves_cons (f := 75) (args := #[.pointer (some ⟨j, 0, none⟩)]) (by simp) (by simp [go_sem]) ?_
  refine (prog_wipe_deferred w4 j l3 .returning hr4 hl3').mono ?_
  rintro e u' w5 ⟨rfl, rfl, hg5⟩
  refine leaves_cons (f := 74) (args := #[.pointer (some ⟨w.heap.size, 0, none⟩)]) (by simp [settle]) (by simp [go_sem]) ?_
  refine (catch_none w5 w.heap.size).mono ?_
  rintro e u' w6 ⟨rfl, rfl, rfl⟩
  exact ⟨_, results_tmp rfl _ _ _, rfl, Row.grown hd4 hg5 hgj, (Two.ofB hA).trans (hg4.trans (.of2 hg5))⟩

set_option maxRecDepth 100000 in
set_option maxHeartbeats 1000000 in
/-- one command in whose middle the power goes -/
theorem prog_obeyOn_no (w : World) (g j : Nat) (d : Dv) (x : UInt8) (k : Int) (p : ByteArray) (E : Dv × Int × List UInt8) (HE : Hid (E = d.commandC k p)) (h : PdAt w g d) (f : d.fit) (ok : d.sound) (ho : d.off = false) (hG : ∀ w', Two g j w w' → Glob w') (hs : p.size < 100000) (hW : Row w j (bcells (d.k.raw x)) 75) (hgj : ¬ g = j) (hE : E.1.off = true) :
    Calls Tryd.prog 68 #[.pointer (some ⟨g, 0, none⟩), .pointer (some ⟨j, 0, none⟩), .int .u8 k, .string p] w fun r w' => r = .returned (.string ⟨#[]⟩) ∧ PdOff w' g E.1 ∧ Two g j w w' := by
  have hmf : ∀ (fn : Fn) (first cap : Array Value) (w : World), (Instr.makeFunc fn first cap).run Tryd.prog w = .ok (.func fn first cap) w := fun _ _ _ _ => rfl
  have hsd := (Dv.commandC_sound ok k p).1
  rw [← HE.out] at hsd
  have hA : Below w.heap.size w (w.alloc (.cells #[.pointer (some ⟨g, 0, none⟩)] 35)) := (Below.refl _ _).alloc (Nat.le_refl _) _
  have hdo := prog_doC (w.alloc (.cells #[.pointer (some ⟨g, 0, none⟩)] 35)) (w.alloc (.cells #[.pointer (some ⟨g, 0, none⟩)] 35)) g j d x k p E HE (h.below hA h.lt) f ok ho (hG _ (.ofB hA)) hs (hW.below hA hW.lt) hgj (Two.refl _ _ _)
  replace hdo := hdo.mono (fun r w' e => e.elim (fun a => absurd (a.1.symm.trans hE) (by decide)) (fun a => a.2) : ∀ r w', _ → r = lost ∧ PLost (w.alloc (.cells #[.pointer (some ⟨g, 0, none⟩)] 35)) g j E.1 w')
  clear HE
  have hgl := h.lt
  have hjl := hW.lt
  have HB0 : Hid (Row (w.alloc (.cells #[.pointer (some ⟨g, 0, none⟩)] 35)) w.heap.size [.pointer (some ⟨g, 0, none⟩)] 35) := Row.made w _ _
  go_enter_defers Tryd.func68, Tryd.ntmps68
  go_wp2_with (first | (go_at_call 76; refine hdo.mono ?_; rintro _ w3 ⟨hr3, hl3⟩; rw [lost_is] at hr3; subst hr3))
  obtain ⟨⟨q3, u3, c3, hd3⟩, ⟨l3, hl3', hr3⟩, hg3⟩ := hl3
  have HB3 : Row w3 w.heap.size [.pointer (some ⟨g, 0, none⟩)] 35 := Row.twoE HB0.out hg3 (by omega) (by omega)
  refine leaves_cons (f := 75) (args := #[.pointer (some ⟨j, 0, none⟩)]) (by simp) (by simp [go_sem]) ?_
  refine (prog_wipe_deferred w3 j l3 _ hr3 hl3').mono ?_
  rintro e u' w5 ⟨rfl, rfl, hg5⟩
  refine leaves_cons (f := 74) (args := #[.pointer (some ⟨w.heap.size, 0, none⟩)]) (by simp [settle]) (by simp [go_sem]) ?_
  refine (catch_lost w5 w.heap.size g _ q3 u3 c3 _ (Row.grown HB3 hg5 (by omega)) (Row.grown hd3 hg5 hgj) (by rw [List.length_append, Bs_len, Bs_len, hsd.s0, hsd.s1])).mono ?_
  rintro e u' w6 ⟨rfl, rfl, hr6, hg6⟩
  have hfin : Two g j w w6 := ((Two.ofB hA).trans (hg3.trans (.of2 hg5))).trans (.of1 hg6)
  simp [Leaves, settle, results, Tryd.results68, go_sem]
  exact ⟨⟨_, _, hr6⟩, hfin⟩

set_option maxRecDepth 100000 in
set_option maxHeartbeats 1000000 in
/-- one command and its answer, by the document's device -/
theorem prog_obeyC (w : World) (g : Nat) (d : Dv) (k : Int) (p : ByteArray) (E : Dv × Int × List UInt8) (HE : Hid (E = d.commandC k p)) (h : PdAt w g d) (f : d.fit) (ok : d.sound) (ho : d.off = false) (hG : ∀ w', w.grownBy w' (some g) → Glob w') (hs : p.size < 100000) :
    (E.1.off = false → Calls Tryd.prog 56 #[.pointer (some ⟨g, 0, none⟩), .int .u8 k, .string p] w fun r w' => r = .returned (.string (str (told E.2.1 E.2.2))) ∧ PdAt w' g E.1 ∧ w.grownBy w' (some g)) ∧
    (E.1.off = true → Calls Tryd.prog 56 #[.pointer (some ⟨g, 0, none⟩), .int .u8 k, .string p] w fun r w' => r = .returned (.string ⟨#[]⟩) ∧ PdOff w' g E.1 ∧ w.grownBy w' (some g)) := by
  obtain ⟨wh, HWH⟩ : ∃ wh : Nat, Hid (wh = d.wh.toNat) := ⟨_, rfl⟩
  have hw2 : wh < 2 := by rw [HWH.out]; rcases ok.wh with e | e <;> rw [e] <;> decide
  have hkp : keeps (Bs d.h0) (Bs d.h1) wh := by rw [HWH.out]; exact f.keeps
  have HLI : Hid (d.k.img.length = 100) := Kep.img_length ok.good
  have HIR : Hid (∃ y, d.k.img = d.k.raw y) := ⟨_, Kep.img_raw ok.good⟩
  have x1 := fun wx => run_indexFlash wx g 0 wh wh rfl hw2 (100 * wh) (by omega)
  obtain ⟨im, HIM⟩ : ∃ im, Hid (im = d.k.img) := ⟨_, rfl⟩
  have HLM : Hid ((bcells im).length = 100) := by show _ = _; rw [HIM.out, bcells_length, HLI.out]
  constructor
  all_goals
    intro hE
    go_enter Tryd.func56, Tryd.ntmps56
    go_wp2_with (first | (go_at_call 41; refine (prog_kept w g (Bs d.h0) (Bs d.h1) d.pw d.unl d.inn wh h f.l0 f.l1 hkp).mono ?_; rintro _ w1 ⟨rfl, n1, e1⟩; have hd1 : PdAt w1 g d := (by rw [e1]; exact h); have hg1 : w.grownBy w1 (some g) := (by rw [e1]; exact grown_of_below _ (below_drewN (Below.refl _ _) _)); have hr1 := hd1.half f ok HWH.out; rw [← HIM.out] at hr1; clear e1) | (refine wpList_load_mid rfl 75 _ rfl g (100 * wh) rfl (bcells im) _ hr1 under_img rfl (by rw [size_img, HLM.out]) ?_; go_simp) | (refine wpList_allocR rfl 75 rfl 100 (.int .u8 0) arr100b ?_; go_simp) | (refine wpList_storeMA rfl 75 _ _ rfl _ rfl rfl (bcells im) rfl 75 _ 100 (.int .u8 0) arr100b HLM.out (zrow_length _ _) (bcells_one _) ?_; intro w2 hr2 hb2; have hd2 : PdAt w2 g d := hd1.below hb2 hd1.lt; have hg2 : w.grownBy w2 (some g) := grown_below hg1 hb2; have hgj : ¬ g = w1.heap.size := (by have := hd1.lt; omega); have hjs : w.heap.size ≤ w1.heap.size := hg1.size; have hG2 : ∀ w', Two g w1.heap.size w2 w' → Glob w' := (fun w' ht => hG w' (Two.newer hg2 ht hjs)); clear hr1 hb2 hd1 hg1; go_simp) | (go_at_call 68; obtain ⟨y, hy⟩ := HIR.out; first | (refine (prog_obeyOn_yes w2 g w1.heap.size d y k p E HE hd2 f ok ho hG2 hs (by rw [← hy, ← HIM.out]; exact hr2) hgj hE).mono ?_; rintro _ w3 ⟨rfl, hl3, ht3⟩) | (refine (prog_obeyOn_no w2 g w1.heap.size d y k p E HE hd2 f ok ho hG2 hs (by rw [← hy, ← HIM.out]; exact hr2) hgj hE).mono ?_; rintro _ w3 ⟨rfl, hl3, ht3⟩)))
    go_ret
    exact ⟨rfl, hl3, Two.newer hg2 ht3 hjs⟩
end Go.Proofs.YtaokemapkgggoaaDoor

namespace Go.Proofs.YtaokemapkgggoaaDoor
open Go.RowKit

theorem told_yes {l : List UInt8} (hl : l.length = 100) (h : readOk l) : Told l true := ⟨fun _ => read_right l hl h, fun e => by cases e⟩
theorem told_no {l : List UInt8} (h : ¬ readOk l) : Told l false := ⟨fun e => (by cases e), fun _ x => h (right_read l x)⟩
/-- what stands in the flash, for the program's side -/
theorem Dv.stands.fit {d : Dv} (h : d.stands) (S : d.sound) : d.fit := by
  have l0 : (Bs d.h0).length = 100 := by rw [Bs_len]; exact S.s0
  have l1 : (Bs d.h1).length = 100 := by rw [Bs_len]; exact S.s1
  obtain ⟨hw, hr, hs, ho⟩ := h
  rcases hw with e | e
  · rw [if_pos e] at hr hs ho
    rw [if_pos e] at ho
    refine ⟨l0, l1, ?_, ?_⟩
    · rw [e]
      refine .inl ⟨rfl, told_yes l0 hr, ?_⟩
      by_cases h1 : readOk (Bs d.h1)
      · refine .inr ⟨told_yes l1 h1, ?_⟩
        rcases ho with x | x
        · exact absurd h1 x
        · rw [← hs] at x
          exact x
      · exact .inl (told_no h1)
    · rw [if_pos e, ← hs]
      exact hr.2.2.symm
  · rw [if_neg (by omega)] at hr hs ho
    rw [if_neg (by omega)] at ho
    refine ⟨l0, l1, ?_, ?_⟩
    · rw [e]
      refine .inr ⟨rfl, told_yes l1 hr, ?_⟩
      by_cases h0 : readOk (Bs d.h0)
      · refine .inr ⟨told_yes l0 h0, ?_⟩
        rcases ho with x | x
        · exact absurd h0 x
        · rw [← hs] at x
          exact x
      · exact .inl (told_no h0)
    · rw [if_neg (by omega), ← hs]
      exact hr.2.2.symm
end Go.Proofs.YtaokemapkgggoaaDoor

namespace Go.Proofs.YtaokemapkgggoaaDoor
open Go.RowKit

theorem put_withIn (d : Dv) (l : List UInt8) (k : Kep) : (d.withIn l).put k = (d.put k).withIn l := by
  unfold Dv.put
  rw [show (d.withIn l).cut = d.cut from rfl]
  split <;> rfl
theorem Dv.unlockC_withIn (d : Dv) (l : List UInt8) (p : ByteArray) : (d.withIn l).unlockC p = ((d.unlockC p).1.withIn l, (d.unlockC p).2) := by
  unfold Dv.unlockC
  simp only [show (d.withIn l).k = d.k from rfl, show (d.withIn l).cut = d.cut from rfl, show ∀ k, ((d.withIn l).wrote k).cut = (d.wrote k).cut from fun _ => rfl]
  split
  · rfl
  split
  · rfl
  split
  · rfl
  split
  · rfl
  split
  · dsimp only
    split
    · rw [show ((d.withIn l).wrote d.k.less).lock = ((d.wrote d.k.less).lock).withIn l from rfl, put_withIn]
    · rfl
  split
  · rfl
  split <;> rfl
theorem Dv.slot_withIn (d : Dv) (l : List UInt8) (kind : Int) (p : ByteArray) : (d.withIn l).slot kind p = ((d.slot kind p).1.withIn l, (d.slot kind p).2) := by
  unfold Dv.slot
  simp only [show (d.withIn l).k = d.k from rfl, show (d.withIn l).unl = d.unl from rfl]
  repeat' split
  all_goals rfl
theorem Dv.unlock_withIn (d : Dv) (l : List UInt8) (p : ByteArray) : (d.withIn l).unlock p = ((d.unlock p).1.withIn l, (d.unlock p).2) := by
  unfold Dv.unlock
  simp only [show (d.withIn l).k = d.k from rfl]
  split
  · rfl
  split
  · rfl
  split
  · rfl
  split
  · dsimp only
    split <;> rfl
  split <;> rfl
theorem Dv.command_withIn (d : Dv) (l : List UInt8) (kind : Int) (p : ByteArray) : (d.withIn l).command kind p = ((d.command kind p).1.withIn l, (d.command kind p).2) := by
  unfold Dv.command
  rw [Dv.unlock_withIn, Dv.slot_withIn]
  simp only [show (d.withIn l).k = d.k from rfl, show (d.withIn l).unl = d.unl from rfl]
  repeat' split
  all_goals rfl
theorem Dv.commandC_withIn (d : Dv) (l : List UInt8) (kind : Int) (p : ByteArray) : (d.withIn l).commandC kind p = ((d.commandC kind p).1.withIn l, (d.commandC kind p).2) := by
  unfold Dv.commandC Dv.slotC
  rw [Dv.unlockC_withIn, Dv.slot_withIn, Dv.command_withIn]
  simp only [show (d.withIn l).k = d.k from rfl, show (d.withIn l).unl = d.unl from rfl, put_withIn]
  repeat' split
  all_goals rfl
theorem feedC_skip {n : Nat} {d : Dv} {l t : List UInt8} (h : skip l = skip t) : feedC (n + 1) d l = feedC (n + 1) d t := by
  unfold feedC
  rw [h]

end Go.Proofs.YtaokemapkgggoaaDoor

namespace Go.Proofs.YtaokemapkgggoaaDoor
open Go.RowKit

/-- what has come is no part of what a command does -/
def Dv.inB (d : Dv) (c : ByteArray) : Dv := { d with inn := c }
theorem inB_withIn (d : Dv) (c : ByteArray) : d.inB c = d.withIn c.data.toList := by
  unfold Dv.inB Dv.withIn
  rw [list_str]
theorem Dv.commandC_inB (d : Dv) (c : ByteArray) (kind : Int) (p : ByteArray) : (d.inB c).commandC kind p = ((d.commandC kind p).1.inB c, (d.commandC kind p).2) := by
  rw [inB_withIn, inB_withIn, Dv.commandC_withIn]
theorem inB_sound {d : Dv} (h : d.sound) (c : ByteArray) : (d.inB c).sound := by rw [inB_withIn]; exact withIn_sound h _
theorem inB_fit {d : Dv} (h : d.fit) (c : ByteArray) : (d.inB c).fit := ⟨h.l0, h.l1, h.keeps, h.img⟩
theorem feedC_inB (n : Nat) (d : Dv) (c : ByteArray) (l : List UInt8) : feedC n (d.inB c) l = feedC n d l := by
  cases n <;> rfl

theorem fresh_sound (sm : Nat) (p : ByteArray) (h1 : 1 ≤ p.size) (h2 : p.size ≤ 8) : (Dv.fresh sm p).sound := by
  have hg : (Dv.fresh sm p).k.good := ⟨by simp only [Dv.fresh]; omega, by simp only [Dv.fresh]; omega, by simp only [Dv.fresh]; omega, by simp only [Dv.fresh]; omega, h2, Nat.zero_le _, Nat.zero_le _, Nat.zero_le _, Nat.zero_le _⟩
  refine ⟨by simp only [Dv.fresh]; omega, by simp only [Dv.fresh]; omega, hg.t0, hg.t1, h1, h2, Nat.zero_le _, Nat.zero_le _, Nat.zero_le _, Nat.zero_le _, .inl rfl, by simp only [Dv.fresh]; omega, ?_, ?_⟩
  · have e0 : Bs (Dv.fresh sm p).h0 = (Dv.fresh sm p).k.img := str_list _
    rw [← Bs_len, e0]
    exact Kep.img_length hg
  · have e1 : Bs (Dv.fresh sm p).h1 = List.replicate 100 0 := (str_list _).trans rfl
    rw [← Bs_len, e1]
    rfl
end Go.Proofs.YtaokemapkgggoaaDoor

namespace Go.Proofs.YtaokemapkgggoaaDoor
open Go.RowKit

theorem size_builder : (Tryd.prog.info? 102).map (·.size) = some 2 := by kernel_rfl
theorem lies_builder : liesAt Tryd.prog Tryd.prog.depth 102 (2 / Tryd.prog.cellsOf 102) 0 102 1 = true := by kernel_rfl
theorem under_pb : Tryd.prog.underlying 100 = some (.pointer 102) := by kernel_rfl
theorem under_up : Tryd.prog.underlying 130 = some .unsafePointer := by kernel_rfl

theorem run_noEscape (w : World) (x : Value) : (callFunc 73 #[x]).run Tryd.prog w = .ok (.value x) w := by
  rw [run_callFunc_extern Tryd.func73 (by kernel_rfl) (by kernel_rfl) (by kernel_rfl) (e := Extern.AbiNoEscape.same) (by kernel_rfl), Lib.run_noEscape]
  rfl

set_option maxRecDepth 100000 in
set_option maxHeartbeats 1000000 in
theorem prog_copyCheck_used (b : Nat) (w : World) (h0 : w.cell? ⟨b, 0, none⟩ = some (.pointer (some ⟨b, 0, none⟩))) :
    Calls Tryd.prog 65 #[.pointer (some ⟨b, 0, none⟩)] w fun e w' => e = .returned (.tuple #[]) ∧ w' = w := by
  obtain ⟨j, hj, _⟩ := Option.map_eq_some_iff.1 size_builder
  have hne := Lib.run_neq_ptr_same w ⟨b, 0, none⟩ under_pb hj
  clear hj
  go_enter Tryd.func65, Tryd.ntmps65
  go_wp2
  go_end0
  exact ⟨rfl, rfl⟩

set_option maxRecDepth 100000 in
set_option maxHeartbeats 1000000 in
theorem prog_copyCheck_fresh (b : Nat) (w : World) (h0 : w.cell? ⟨b, 0, none⟩ = some (.pointer none)) (hsh : w.shape? b = some (102, 2)) (hfz : w.frozen? ⟨b, 0, none⟩ = false) :
    Calls Tryd.prog 65 #[.pointer (some ⟨b, 0, none⟩)] w fun e w' => e = .returned (.tuple #[]) ∧ w' = w.setCell ⟨b, 0, none⟩ (.pointer (some ⟨b, 0, none⟩)) := by
  obtain ⟨j, hj, hjs⟩ := Option.map_eq_some_iff.1 size_builder
  have hne := Lib.run_neq_ptr_same (w.setCell ⟨b, 0, none⟩ (.pointer (some ⟨b, 0, none⟩))) ⟨b, 0, none⟩ under_pb hj
  have hto := Lib.run_to_unsafe w ⟨b, 0, none⟩ under_pb under_up hj (by rw [hjs]; decide) hsh (Nat.zero_lt_succ 1)
  have hfrom := Lib.run_from_unsafe w ⟨b, 0, none⟩ under_up under_pb hj hsh lies_builder
  clear hj
  have hex := run_noEscape w (.pointer (some ⟨b, 0, none⟩))
  go_enter Tryd.func65, Tryd.ntmps65
  go_wp2
  go_end0
  exact ⟨rfl, rfl⟩

theorem prog_copyCheck (B b : Nat) (bs : List Value) (w : World) (h : Lib.IsBuilder 102 5 B b bs w) :
    Calls Tryd.prog 65 #[.pointer (some ⟨b, 0, none⟩)] w fun e w' => e = .returned (.tuple #[]) ∧ Lib.BuilderAt 102 5 B b (.pointer (some ⟨b, 0, none⟩)) bs w' ∧ Below B w w' := by
  rcases h with h | h
  · refine (prog_copyCheck_fresh b w h.cell0 h.shape h.frozen0).mono ?_
    rintro e w' ⟨rfl, rfl⟩
    exact ⟨rfl, h.used _, (Below.refl B w).setCell (p := ⟨b, 0, none⟩) h.1 _⟩
  · refine (prog_copyCheck_used b w h.cell0).mono ?_
    rintro e w' ⟨rfl, rfl⟩
    exact ⟨rfl, h, Below.refl B _⟩

set_option maxRecDepth 100000 in
set_option maxHeartbeats 1000000 in
theorem prog_WriteString (B b : Nat) (bs : List Value) (s : ByteArray) (w : World) (h : Lib.IsBuilder 102 5 B b bs w) (hlen : bs.length + s.size ≤ 1000000000) (hBw : B ≤ w.heap.size) :
    Calls Tryd.prog 52 #[.pointer (some ⟨b, 0, none⟩), .string s] w fun e w' => e = .returned (.tuple #[.int .i64 s.size, .nilIface]) ∧ Lib.BuilderAt 102 5 B b (.pointer (some ⟨b, 0, none⟩)) (bs ++ Lib.strCells s) w' ∧ Below B w w' := by
  obtain ⟨i0, hi, hz0, hz1, hz2⟩ := info_parts slB.i
  have HI : Hid _ := hi
  have HZ0 : Hid _ := hz0
  have HZ1 : Hid _ := hz1
  have HZ2 : Hid _ := hz2
  clear hi hz0 hz1 hz2
  go_enter Tryd.func52, Tryd.ntmps52
  go_wp2_with (go_at_call 65; refine (prog_copyCheck B b bs _ h).mono ?_)
  rintro e w1 ⟨rfl, h1, hb1⟩
  obtain ⟨hB, v, hbk, hown, hne⟩ := h1
  have c0 : w1.cell? ⟨b, 0, none⟩ = some (.pointer (some ⟨b, 0, none⟩)) := by rw [Lib.cell_of_heap hbk]; rfl
  have c1 : w1.cell? ⟨b, 1, none⟩ = some v := by rw [Lib.cell_of_heap hbk]; rfl
  go_wp2_with (at_builtin; refine Lib.wpList_append_own_string _ rfl _ _ 28 9 rfl B 5 i0 slB.u under_str HI.out HZ0.out HZ1.out HZ2.out _ _ _ rfl hown s rfl ?c3 ?c4 ?c5 ?_)
  case c3 => unfold maxLen; omega
  case c4 => omega
  case c5 => have := hb1.size; omega
  intro v' w2 hown' hgrow _
  have hlt : b < w1.heap.size := (Array.getElem?_eq_some_iff.1 hbk).1
  have hb2 : w2.heap[b]? = some (.cells #[.pointer (some ⟨b, 0, none⟩), v] 102 (0, 0)) := by
    rw [hgrow.block b hlt (fun e => hne e.symm)]
    exact hbk
  have d0 : w2.cell? ⟨b, 0, none⟩ = some (.pointer (some ⟨b, 0, none⟩)) := by rw [Lib.cell_of_heap hb2]; rfl
  have d1 : w2.cell? ⟨b, 1, none⟩ = some v := by rw [Lib.cell_of_heap hb2]; rfl
  have f1 : w2.frozen? ⟨b, 1, none⟩ = false := Lib.frozen_of_heap hb2 1
  obtain ⟨ao, n', cap, rfl⟩ : ∃ ao n' cap, v' = .slice ao n' cap := by
    rcases hown'.2 with ⟨hv, _⟩ | ⟨g, cap, cur, hv, _⟩
    · exact ⟨_, _, _, hv⟩
    · exact ⟨_, _, _, hv⟩
  go_wp2
  go_ret2
  refine ⟨rfl, ?_, ?_⟩
  · exact Lib.BuilderAt.put (T := 102) (e := 5) hB hb2 (bs' := bs ++ Lib.strCells s) (by simpa [Lib.strCells_length] using hown') (by decide)
  · exact (hb1.grown hgrow (by have := hb1.size; omega) (fun k hk => (hown.lt k hk).1)).setCell (p := ⟨b, 1, none⟩) hB _
end Go.Proofs.YtaokemapkgggoaaDoor

namespace Go.Proofs.YtaokemapkgggoaaDoor
open Go.Shelf
def shelf_lays169_ren : Go.Shelf.Ren := ⟨fun | 169 => 55 | n => n, fun | 70 => 100 | 9 => 9 | 0 => 0 | 72 => 102 | 37 => 28 | 127 => 124 | 3 => 3 | 5 => 5 | n => n, fun | n => n⟩
theorem shelf_lays169 : Go.Proofs.Lays.n169 Tryd.prog shelf_lays169_ren := {
  mixed := by kernel_rfl
  f169 := Tryd.func55.trans (congrArg some (by kernel_rfl))
  t0 := Tryd.underlying0
  a0 := Tryd.isAgg0
  z0 := Tryd.sizeOf0
  v0 := Tryd.zeroValue0
  t3 := Tryd.underlying3
  a3 := Tryd.isAgg3
  z3 := Tryd.sizeOf3
  v3 := Tryd.zeroValue3
  t9 := Tryd.underlying9
  a9 := Tryd.isAgg9
  z9 := Tryd.sizeOf9
  v9 := Tryd.zeroValue9
  t37 := Tryd.underlying28
  a37 := Tryd.isAgg28
  z37 := Tryd.sizeOf28
  v37 := Tryd.zeroValue28
  t70 := Tryd.underlying100
  a70 := Tryd.isAgg100
  z70 := Tryd.sizeOf100
  v70 := Tryd.zeroValue100
  t72 := Tryd.underlying102
  a72 := Tryd.isAgg102
  z72 := Tryd.sizeOf102
  v72 := Tryd.zeroValue102
  t127 := Tryd.underlying124
  a127 := Tryd.isAgg124
  z127 := Tryd.sizeOf124
  v127 := Tryd.zeroValue124 }
theorem shelf_Builder_Extra_169 : Builder.Extra Tryd.prog shelf_lays169_ren := {
  sizeBuilder := by kernel_rfl
  liesBuilder := by kernel_rfl
  t5 := Tryd.underlying5
  a5 := Tryd.isAgg5
  z5 := Tryd.sizeOf5
  v5 := Tryd.zeroValue5
  infoByte := by kernel_rfl
  cellsByte := by kernel_rfl
  sizeByte := by kernel_rfl
  neB5 := by decide }
open Go.RowKit in
open Go.RowKit in
open Go.RowKit in
theorem shelf_Builder_String_any (B b : Nat) (l : List UInt8) (w : World) (h : Lib.IsBuilder 102 5 B b (Lib.byteCells l) w) (hBw : B ≤ w.heap.size) :
    Calls Tryd.prog 55 #[.pointer (some ⟨b, 0, none⟩)] w fun e w' => e = .returned (.string ⟨l.toArray⟩) ∧ Below B w w' := Any.Builder_String_any shelf_lays169 shelf_Builder_Extra_169 B b l w h hBw
def shelf_laysM316_ren : Go.Shelf.Ren := ⟨fun | 316 => 67 | n => n, fun | 9 => 9 | 3 => 3 | 4 => 4 | 37 => 28 | 0 => 0 | 127 => 124 | 5 => 5 | n => n, fun | n => n⟩
theorem shelf_laysM316 : Go.Proofs.LaysM.n316 Tryd.prog shelf_laysM316_ren := {
  mixed := by kernel_rfl
  f316 := Tryd.func67.trans (congrArg some (by kernel_rfl))
  t0 := Tryd.underlying0
  a0 := Tryd.isAgg0
  z0 := Tryd.sizeOf0
  v0 := Tryd.zeroValue0
  t3 := Tryd.underlying3
  a3 := Tryd.isAgg3
  z3 := Tryd.sizeOf3
  v3 := Tryd.zeroValue3
  t4 := Tryd.underlying4
  a4 := Tryd.isAgg4
  z4 := Tryd.sizeOf4
  v4 := Tryd.zeroValue4
  t9 := Tryd.underlying9
  a9 := Tryd.isAgg9
  z9 := Tryd.sizeOf9
  v9 := Tryd.zeroValue9
  t37 := Tryd.underlying28
  a37 := Tryd.isAgg28
  z37 := Tryd.sizeOf28
  v37 := Tryd.zeroValue28
  t127 := Tryd.underlying124
  a127 := Tryd.isAgg124
  z127 := Tryd.sizeOf124
  v127 := Tryd.zeroValue124
  t5 := Tryd.underlying5
  a5 := Tryd.isAgg5
  z5 := Tryd.sizeOf5
  v5 := Tryd.zeroValue5
  i0 := by kernel_rfl
  i3 := by kernel_rfl
  i4 := by kernel_rfl
  i5 := by kernel_rfl
  i9 := by kernel_rfl
  i37 := by kernel_rfl
  i127 := by kernel_rfl }
open Go.RowKit in
theorem shelf_stringslite_Clone (s : ByteArray) (w : World) (hlim : s.size ≤ 281474976710656) :
    Calls Tryd.prog 67 #[.string s] w fun e w' => e = .returned (.string s) ∧ Below w.heap.size w w' := Any.stringslite_Clone shelf_laysM316 s w hlim
end Go.Proofs.YtaokemapkgggoaaDoor
