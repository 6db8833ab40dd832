import Derived.Test.YtaokemapkgggoaaDoorKb21
import Derived.Test.YtaokemapkgggoaaDoorKb17
namespace Go.Proofs.YtaokemapkgggoaaDoor
open Go.RowKit

/-- what a command leaves, its work's image too -/
def PLeft (w0 : World) (g j : Nat) (d : Dv) (w' : World) : Prop := PdAt w' g d ∧ (∃ l : List UInt8, l.length = 100 ∧ Row w' j (bcells l) 75) ∧ Two g j w0 w'

/-- how a command ends: with an answer, or by the power's going -/
def EndsBy (w0 : World) (g j : Nat) (E : Dv × Int × List UInt8) (v : Value) (r : Ending) (w' : World) : Prop := (E.1.off = false ∧ r = .returned v ∧ PLeft w0 g j E.1 w') ∨ (E.1.off = true ∧ r = lost ∧ PLost w0 g j E.1 w')

theorem zrow_bcells (n : Nat) : zrow n (.int .u8 0) = bcells (List.replicate n 0) := by simp [zrow, bcells]
theorem prog_pinOf_any (s : ByteArray) (w : World) :
    Calls Tryd.prog 42 #[.string s] w fun r w' => ∃ l b, List.length l = 9 ∧ r = .returned (.tuple #[.agg (bcells l).toArray, .bool b]) ∧ Below w.heap.size w w' := by
  by_cases h : s.size < 1 ∨ 8 < s.size
  · refine (prog_pinOf_no s w h).mono ?_
    rintro r w' ⟨hr, hb⟩
    rw [zrow_bcells] at hr
    exact ⟨_, _, List.length_replicate, hr, hb⟩
  · refine (prog_pinOf_yes s w (by omega) (by omega)).mono ?_
    rintro r w' ⟨hr, hb⟩
    have hsl : s.data.toList.length < 9 := by rw [Array.length_toList]; show s.size < 9; omega
    rw [field_cellsB 9 _ hsl (by omega)] at hr
    exact ⟨_, _, fieldB_length 9 _ hsl, hr, hb⟩
theorem prog_keyOf_any (s : ByteArray) (w : World) :
    Calls Tryd.prog 31 #[.string s] w fun r w' => ∃ l b, List.length l = 21 ∧ r = .returned (.tuple #[.agg (bcells l).toArray, .bool b]) ∧ Below w.heap.size w w' := by
  by_cases h : 20 < s.size
  · refine (prog_keyOf_no s w h).mono ?_
    rintro r w' ⟨hr, hb⟩
    rw [zrow_bcells] at hr
    exact ⟨_, _, List.length_replicate, hr, hb⟩
  · refine (prog_keyOf_yes s w (by omega)).mono ?_
    rintro r w' ⟨hr, hb⟩
    have hsl : s.data.toList.length < 21 := by rw [Array.length_toList]; show s.size < 21; omega
    rw [field_cellsB 21 _ hsl (by omega)] at hr
    exact ⟨_, _, fieldB_length 21 _ hsl, hr, hb⟩

theorem Row.setCells_other {w : World} {b g : Nat} {cs : List Value} {t : TypeId} (h : Row w b cs t) (hne : ¬ b = g) : ∀ (vs : List Value) (o : Nat), Row (w.setCells g o vs) b cs t := by
  intro vs
  induction vs generalizing w with
  | nil => intro o; exact h
  | cons v r ih => intro o; rw [World.setCells]; exact ih (Row.setCell_other h _ _ hne) (o + 1)
theorem grown_newCells {w W : World} {r : Option Nat} {b : Nat} (h : w.grownBy W r) (hb : w.heap.size ≤ b) : ∀ (vs : List Value) (o : Nat), w.grownBy (W.setCells b o vs) r := by
  intro vs
  induction vs generalizing W with
  | nil => intro o; exact h
  | cons v l ih => intro o; rw [World.setCells]; exact ih (grown_new h b o v hb) (o + 1)

set_option maxRecDepth 100000 in
set_option maxHeartbeats 1000000 in
theorem prog_setPin_locked (w : World) (g j : Nat) (d : Dv) (p : ByteArray) (h : PdAt w g d) (f : d.fit) (hu : d.unl = false) :
    Calls Tryd.prog 84 #[.pointer (some ⟨g, 0, none⟩), .pointer (some ⟨j, 0, none⟩), .string p] w fun r w' => r = .returned (.int .u8 2) ∧ Below w.heap.size w w' := by
  go_enter Tryd.func84, Tryd.ntmps84
  go_wp2_with (first | (go_at_call 42; refine (prog_pinOf_any p w).mono ?_; rintro _ w1 ⟨l1, b1, hl1, rfl, hb1⟩; have hl1' : Hid ((bcells l1).length = 9) := (by show _ = _; rw [bcells_length, hl1]); clear hl1) | (refine wpList_allocR rfl 87 rfl 9 (.int .u8 0) arr9b ?_; go_simp) | (refine wpList_storeMA rfl 87 _ _ rfl _ rfl rfl (bcells l1) rfl 87 _ 9 (.int .u8 0) arr9b hl1'.out (zrow_length _ _) (bcells_one _) ?_; intro w2 hr2 hb2; have hw2 := hb1.trans (hb2.mono hb1.size); have cu := (h.below hw2 h.lt).cu f; rw [hu] at cu; clear hb1 hb2; go_simp))
  go_ret
  exact ⟨rfl, hw2⟩

set_option maxRecDepth 100000 in
set_option maxHeartbeats 1000000 in
theorem prog_setPin_wrong (w : World) (g j : Nat) (d : Dv) (p : ByteArray) (h : PdAt w g d) (f : d.fit) (hu : d.unl = true) (hp : p.size < 1 ∨ 8 < p.size) :
    Calls Tryd.prog 84 #[.pointer (some ⟨g, 0, none⟩), .pointer (some ⟨j, 0, none⟩), .string p] w fun r w' => r = .returned (.int .u8 4) ∧ Below w.heap.size w w' := by
  go_enter Tryd.func84, Tryd.ntmps84
  go_wp2_with (first | (go_at_call 42; refine (prog_pinOf_no p w hp).mono ?_; rintro _ w1 ⟨rfl, hb1⟩) | (refine wpList_allocR rfl 87 rfl 9 (.int .u8 0) arr9b ?_; go_simp) | (refine wpList_storeMA rfl 87 _ _ rfl _ rfl rfl (zrow 9 (.int .u8 0)) rfl 87 _ 9 (.int .u8 0) arr9b (zrow_length _ _) (zrow_length _ _) (by rw [zrow_u8]; exact u8s_one _) ?_; intro w2 hr2 hb2; have hw2 := hb1.trans (hb2.mono hb1.size); have cu := (h.below hw2 h.lt).cu f; rw [hu] at cu; clear hb1 hb2; go_simp))
  go_ret
  exact ⟨rfl, hw2⟩

set_option maxRecDepth 100000 in
set_option maxHeartbeats 1000000 in
theorem prog_setPin_worn (w : World) (g j : Nat) (d : Dv) (x : UInt8) (p : ByteArray) (h : PdAt w g d) (f : d.fit) (ok : d.sound) (hu : d.unl = true) (hp1 : 1 ≤ p.size) (hp2 : p.size ≤ 8) (hW : Row w j (bcells (d.k.raw x)) 75) (hw : 4294967295 ≤ d.k.num) :
    Calls Tryd.prog 84 #[.pointer (some ⟨g, 0, none⟩), .pointer (some ⟨j, 0, none⟩), .string p] w fun r w' => r = .returned (.int .u8 7) ∧ Below w.heap.size w w' := by
  have hcp := prog_pinOf_yes p w hp1 hp2
  have hsl : p.data.toList.length < 9 := by rw [Array.length_toList]; show p.size < 9; omega
  rw [field_cellsB 9 _ hsl (by omega)] at hcp
  have HL : Hid ((bcells (fieldB 9 p.data.toList)).length = 9) := by show _ = _; rw [bcells_length, fieldB_length 9 _ hsl]
  generalize fieldB 9 p.data.toList = pf at *
  have hn : d.k.num = 4294967295 := by have := ok.n1; omega
  have HN : Hid (decide (numOf (d.k.raw x) = 4294967295) = true) := by show _ = _; rw [Kep.raw_num ok.good, hn]; rfl
  go_enter Tryd.func84, Tryd.ntmps84
  go_wp2_with (first | (go_at_call 42; refine hcp.mono ?_; rintro _ w1 ⟨rfl, hb1⟩) | (refine wpList_allocR rfl 87 rfl 9 (.int .u8 0) arr9b ?_; go_simp) | (refine wpList_storeMA rfl 87 _ _ rfl _ rfl rfl (bcells pf) rfl 87 _ 9 (.int .u8 0) arr9b HL.out (zrow_length _ _) (bcells_one _) ?_; intro w2 hr2 hb2; have hw2 := hb1.trans (hb2.mono hb1.size); have cu := (h.below hw2 h.lt).cu f; rw [hu] at cu; clear hb1 hb2; go_simp) | (go_at_call 86; refine (prog_worn w2 j 0 _ (ImgAt.of_row (hW.below hw2 hW.lt) (Kep.raw_length ok.good))).mono ?_; rintro _ w3 ⟨rfl, n3, e3⟩; rw [HN.out]; have hw3 : Below w.heap.size w w3 := (by rw [e3]; exact below_drewN hw2 _); clear e3))
  go_ret
  exact ⟨rfl, hw3⟩

set_option maxRecDepth 100000 in
set_option maxHeartbeats 1000000 in
theorem prog_setPin_yes (w : World) (g j : Nat) (d : Dv) (x : UInt8) (p : ByteArray) (h : PdAt w g d) (f : d.fit) (ok : d.sound) (hu : d.unl = true) (hp1 : 1 ≤ p.size) (hp2 : p.size ≤ 8) (hW : Row w j (bcells (d.k.raw x)) 75) (hw : ¬ 4294967295 ≤ d.k.num) (hc : whole d.cut) (w0 : World) (hgj : ¬ g = j) (hgr : Two g j w0 w) :
    Calls Tryd.prog 84 #[.pointer (some ⟨g, 0, none⟩), .pointer (some ⟨j, 0, none⟩), .string p] w fun r w' => r = .returned (.int .u8 0) ∧ PLeft w0 g j (d.wrote (d.k.withPin p)) w' := by
  have hcp := prog_pinOf_yes p w hp1 hp2
  have hsl : p.data.toList.length < 9 := by rw [Array.length_toList]; show p.size < 9; omega
  rw [field_cellsB 9 _ hsl (by omega)] at hcp
  have HL : Hid ((bcells (fieldB 9 p.data.toList)).length = 9) := by show _ = _; rw [bcells_length, fieldB_length 9 _ hsl]
  have HP : Hid ((d.k.raw x).take 6 ++ fieldB 9 p.data.toList ++ (d.k.raw x).drop 15 = (d.k.withPin p).raw x) := Kep.raw_pin ok.good p
  have HX : Hid (splice (bcells (d.k.raw x)) 6 (bcells (fieldB 9 p.data.toList)) = bcells ((d.k.withPin p).raw x)) := by show _ = _; rw [splice_u8, fieldB_length 9 _ hsl]; exact congrArg _ HP.out
  clear HP
  have hgd : (d.k.withPin p).good := ⟨ok.good.n0, ok.good.n1, ok.good.t0, ok.good.t1, hp2, ok.good.k0, ok.good.k1, ok.good.k2, ok.good.k3⟩
  generalize fieldB 9 p.data.toList = pf at *
  have HN : Hid (decide (numOf (d.k.raw x) = 4294967295) = false) := by show _ = _; rw [Kep.raw_num ok.good]; exact decide_eq_false (by omega)
  have hi9 : (Tryd.prog.info? 87).map (·.size) = some (bcells pf).toArray.size := by rw [List.size_toArray, HL.out]; exact arr9b.size
  go_enter Tryd.func84, Tryd.ntmps84
  go_wp2_with (first | (go_at_call 42; refine hcp.mono ?_; rintro _ w1 ⟨rfl, hb1⟩) | (refine wpList_allocR rfl 87 rfl 9 (.int .u8 0) arr9b ?_; go_simp) | (refine wpList_storeMA rfl 87 _ _ rfl _ rfl rfl (bcells pf) rfl 87 _ 9 (.int .u8 0) arr9b HL.out (zrow_length _ _) (bcells_one _) ?_; intro w2 hr2 hb2; have hw2 := hb1.trans (hb2.mono hb1.size); have cu := (h.below hw2 h.lt).cu f; rw [hu] at cu; clear hb2; go_simp) | (go_at_call 86; refine (prog_worn w2 j 0 _ (ImgAt.of_row (hW.below hw2 hW.lt) (Kep.raw_length ok.good))).mono ?_; rintro _ w3 ⟨rfl, n3, e3⟩; rw [HN.out]; have hw3 : Below w.heap.size w w3 := (by rw [e3]; exact below_drewN hw2 _); have hr3 : Row w3 w1.heap.size (bcells pf) 87 := (by rw [e3]; exact hr2); have hW3 := hW.below hw3 hW.lt; clear e3) | (go_at_call 59; refine (prog_pin _ j 0).mono ?_; rintro _ w9 ⟨rfl, e9⟩; rw [e9]; clear e9 w9) | (refine wpList_loadR rfl 87 _ rfl w1.heap.size rfl 87 (bcells pf) 9 (.int .u8 0) hr3 arr9b HL.out ?_; go_simp) | (refine wpList_store_mid rfl 87 _ _ rfl j 6 (bcells pf).toArray rfl rfl ?_ hi9 (all_oneCell_toArray (bcells_one _)) ?_))
  have hu9 := under_pin
  have hi9' : (Tryd.prog.info? 87).map (·.size) = some (bcells pf).length := by rw [HL.out]; exact arr9b.size
  have hlk : (bcells pf).length = 9 := HL.out
  have hok := bcells_one pf
  have hjl : ¬ j = w1.heap.size := by have := hb1.size; have := hW.lt; omega
  have hS0 : w3.drew.rangeAt w1.heap.size 0 (bcells pf) ∧ w3.drew.there j 6 9 := ⟨hr3.range, hW3.thereFrom 6 9 (by rw [bcells_length, Kep.raw_length ok.good]; omega)⟩
  go_region_held3 (fun w' => w'.rangeAt w1.heap.size 0 (bcells pf) ∧ w'.there j 6 9) (first | exact hS0 | exact ⟨World.rangeAt_setCells_apart hS0.1 _ _ _ (.inl (Ne.symm hjl)), World.there_setCells hS0.2 _ _ _⟩) (first | (go_at_call 59; refine (prog_pin _ j 0).mono ?_; rintro _ w9 ⟨rfl, e9⟩; rw [e9]; clear e9 w9))
  have hW4 : Row (w3.drew.setCells j 6 (bcells pf)) j (bcells ((d.k.withPin p).raw x)) 75 := by
    have := Row.setCells (bcells pf) 6 hW3.drew (by rw [HL.out, bcells_length, Kep.raw_length ok.good]; omega)
    rwa [HX.out] at this
  have hg4 : Two g j w0 (w3.drew.setCells j 6 (bcells pf)) := Two.cells2 (Two.drewT (hgr.trans (.ofB hw3))) _ _
  have hd4 : PdAt (w3.drew.setCells j 6 (bcells pf)) g d := by
    unfold PdAt
    exact Row.setCells_other ((h.below hw3 h.lt : Row w3 g _ _).drew) hgj _ _
  clear hS0 hW3 hr3 hw3
  generalize w3.drew.setCells j 6 (bcells pf) = w4 at *
  go_wp2_with (go_at_call 87; refine (prog_writeD w0 w4 g j d (d.k.withPin p) x hd4 f ok hgd rfl (by omega) hW4 hc hgj hg4).mono ?_; rintro _ w5 ⟨rfl, hd5, ⟨y, hW5⟩, hg5⟩)
  go_ret
  exact ⟨rfl, hd5, ⟨_, Kep.raw_length (by exact ⟨by have := ok.n0; simp only [Kep.next]; omega, by have := ok.n1; simp only [Kep.next]; omega, hgd.t0, hgd.t1, hgd.pin, hgd.k0, hgd.k1, hgd.k2, hgd.k3⟩), hW5⟩, hg5⟩

set_option maxRecDepth 100000 in
set_option maxHeartbeats 1000000 in
theorem prog_setPin_torn (w : World) (g j : Nat) (d : Dv) (x : UInt8) (p : ByteArray) (h : PdAt w g d) (f : d.fit) (ok : d.sound) (hu : d.unl = true) (hp1 : 1 ≤ p.size) (hp2 : p.size ≤ 8) (hW : Row w j (bcells (d.k.raw x)) 75) (hw : ¬ 4294967295 ≤ d.k.num) (hc : 0 ≤ d.cut ∧ d.cut < 101) (w0 : World) (hgj : ¬ g = j) (hgr : Two g j w0 w) :
    Calls Tryd.prog 84 #[.pointer (some ⟨g, 0, none⟩), .pointer (some ⟨j, 0, none⟩), .string p] w fun r w' => r = lost ∧ PLost w0 g j (d.torn (d.k.withPin p)) w' := by
  have hcp := prog_pinOf_yes p w hp1 hp2
  have hsl : p.data.toList.length < 9 := by rw [Array.length_toList]; show p.size < 9; omega
  rw [field_cellsB 9 _ hsl (by omega)] at hcp
  have HL : Hid ((bcells (fieldB 9 p.data.toList)).length = 9) := by show _ = _; rw [bcells_length, fieldB_length 9 _ hsl]
  have HP : Hid ((d.k.raw x).take 6 ++ fieldB 9 p.data.toList ++ (d.k.raw x).drop 15 = (d.k.withPin p).raw x) := Kep.raw_pin ok.good p
  have HX : Hid (splice (bcells (d.k.raw x)) 6 (bcells (fieldB 9 p.data.toList)) = bcells ((d.k.withPin p).raw x)) := by show _ = _; rw [splice_u8, fieldB_length 9 _ hsl]; exact congrArg _ HP.out
  clear HP
  have hgd : (d.k.withPin p).good := ⟨ok.good.n0, ok.good.n1, ok.good.t0, ok.good.t1, hp2, ok.good.k0, ok.good.k1, ok.good.k2, ok.good.k3⟩
  generalize fieldB 9 p.data.toList = pf at *
  have HN : Hid (decide (numOf (d.k.raw x) = 4294967295) = false) := by show _ = _; rw [Kep.raw_num ok.good]; exact decide_eq_false (by omega)
  have hi9 : (Tryd.prog.info? 87).map (·.size) = some (bcells pf).toArray.size := by rw [List.size_toArray, HL.out]; exact arr9b.size
  go_enter Tryd.func84, Tryd.ntmps84
  go_wp2_with (first | (go_at_call 42; refine hcp.mono ?_; rintro _ w1 ⟨rfl, hb1⟩) | (refine wpList_allocR rfl 87 rfl 9 (.int .u8 0) arr9b ?_; go_simp) | (refine wpList_storeMA rfl 87 _ _ rfl _ rfl rfl (bcells pf) rfl 87 _ 9 (.int .u8 0) arr9b HL.out (zrow_length _ _) (bcells_one _) ?_; intro w2 hr2 hb2; have hw2 := hb1.trans (hb2.mono hb1.size); have cu := (h.below hw2 h.lt).cu f; rw [hu] at cu; clear hb2; go_simp) | (go_at_call 86; refine (prog_worn w2 j 0 _ (ImgAt.of_row (hW.below hw2 hW.lt) (Kep.raw_length ok.good))).mono ?_; rintro _ w3 ⟨rfl, n3, e3⟩; rw [HN.out]; have hw3 : Below w.heap.size w w3 := (by rw [e3]; exact below_drewN hw2 _); have hr3 : Row w3 w1.heap.size (bcells pf) 87 := (by rw [e3]; exact hr2); have hW3 := hW.below hw3 hW.lt; clear e3) | (go_at_call 59; refine (prog_pin _ j 0).mono ?_; rintro _ w9 ⟨rfl, e9⟩; rw [e9]; clear e9 w9) | (refine wpList_loadR rfl 87 _ rfl w1.heap.size rfl 87 (bcells pf) 9 (.int .u8 0) hr3 arr9b HL.out ?_; go_simp) | (refine wpList_store_mid rfl 87 _ _ rfl j 6 (bcells pf).toArray rfl rfl ?_ hi9 (all_oneCell_toArray (bcells_one _)) ?_))
  have hu9 := under_pin
  have hi9' : (Tryd.prog.info? 87).map (·.size) = some (bcells pf).length := by rw [HL.out]; exact arr9b.size
  have hlk : (bcells pf).length = 9 := HL.out
  have hok := bcells_one pf
  have hjl : ¬ j = w1.heap.size := by have := hb1.size; have := hW.lt; omega
  have hS0 : w3.drew.rangeAt w1.heap.size 0 (bcells pf) ∧ w3.drew.there j 6 9 := ⟨hr3.range, hW3.thereFrom 6 9 (by rw [bcells_length, Kep.raw_length ok.good]; omega)⟩
  go_region_held3 (fun w' => w'.rangeAt w1.heap.size 0 (bcells pf) ∧ w'.there j 6 9) (first | exact hS0 | exact ⟨World.rangeAt_setCells_apart hS0.1 _ _ _ (.inl (Ne.symm hjl)), World.there_setCells hS0.2 _ _ _⟩) (first | (go_at_call 59; refine (prog_pin _ j 0).mono ?_; rintro _ w9 ⟨rfl, e9⟩; rw [e9]; clear e9 w9))
  have hW4 : Row (w3.drew.setCells j 6 (bcells pf)) j (bcells ((d.k.withPin p).raw x)) 75 := by
    have := Row.setCells (bcells pf) 6 hW3.drew (by rw [HL.out, bcells_length, Kep.raw_length ok.good]; omega)
    rwa [HX.out] at this
  have hg4 : Two g j w0 (w3.drew.setCells j 6 (bcells pf)) := Two.cells2 (Two.drewT (hgr.trans (.ofB hw3))) _ _
  have hd4 : PdAt (w3.drew.setCells j 6 (bcells pf)) g d := by
    unfold PdAt
    exact Row.setCells_other ((h.below hw3 h.lt : Row w3 g _ _).drew) hgj _ _
  clear hS0 hW3 hr3 hw3
  generalize w3.drew.setCells j 6 (bcells pf) = w4 at *
  go_wp2_with (go_at_call 87; refine (prog_writeT w0 w4 g j d (d.k.withPin p) x hd4 f ok hgd rfl (by omega) hW4 hc hgj hg4).mono ?_; rintro _ w5 ⟨hr5, hl5⟩; rw [lost_is] at hr5; subst hr5)
  exact ⟨rfl, rfl, hl5⟩

/-- another PIN, by the document's device -/
theorem prog_setPinC (w0 w : World) (g j : Nat) (d : Dv) (x : UInt8) (p : ByteArray) (E : Dv × Int × List UInt8) (HE : Hid (E = d.commandC 6 p)) (h : PdAt w g d) (f : d.fit) (ok : d.sound) (ho : d.off = false) (hW : Row w j (bcells (d.k.raw x)) 75) (hgj : ¬ g = j) (hgr : Two g j w0 w) :
    Calls Tryd.prog 84 #[.pointer (some ⟨g, 0, none⟩), .pointer (some ⟨j, 0, none⟩), .string p] w fun r w' => E.2.2 = [] ∧ EndsBy w0 g j E (.int .u8 E.2.1) r w' := by
  have e := HE.out
  rw [command6C] at e
  have hq : ∀ w', Below w.heap.size w w' → PLeft w0 g j d w' := fun w' hb => ⟨h.below hb h.lt, ⟨_, Kep.raw_length ok.good, hW.below hb hW.lt⟩, hgr.trans (.ofB hb)⟩
  by_cases hu : d.unl = false
  · rw [if_pos hu] at e
    subst e
    refine (prog_setPin_locked w g j d p h f hu).mono ?_
    rintro r w' ⟨rfl, hb⟩
    exact ⟨rfl, .inl ⟨ho, rfl, hq w' hb⟩⟩
  · have hu' : d.unl = true := by simpa using hu
    rw [if_neg hu] at e
    by_cases hp : p.size < 1 ∨ 8 < p.size
    · rw [if_pos hp] at e
      subst e
      refine (prog_setPin_wrong w g j d p h f hu' hp).mono ?_
      rintro r w' ⟨rfl, hb⟩
      exact ⟨rfl, .inl ⟨ho, rfl, hq w' hb⟩⟩
    · rw [if_neg hp] at e
      by_cases hw : 4294967295 ≤ d.k.num
      · rw [if_pos hw] at e
        subst e
        refine (prog_setPin_worn w g j d x p h f ok hu' (by omega) (by omega) hW hw).mono ?_
        rintro r w' ⟨rfl, hb⟩
        exact ⟨rfl, .inl ⟨ho, rfl, hq w' hb⟩⟩
      · rw [if_neg hw] at e
        unfold Dv.put at e
        by_cases hc : 0 ≤ d.cut ∧ d.cut < 101
        · rw [if_pos hc] at e
          subst e
          refine (prog_setPin_torn w g j d x p h f ok hu' (by omega) (by omega) hW hw hc w0 hgj hgr).mono ?_
          rintro r w' ⟨rfl, hl⟩
          exact ⟨rfl, .inr ⟨rfl, rfl, hl⟩⟩
        · rw [if_neg hc] at e
          subst e
          refine (prog_setPin_yes w g j d x p h f ok hu' (by omega) (by omega) hW hw (whole_of hc ok.c1) w0 hgj hgr).mono ?_
          rintro r w' ⟨rfl, hl⟩
          exact ⟨rfl, .inl ⟨ho, rfl, hl⟩⟩
end Go.Proofs.YtaokemapkgggoaaDoor
