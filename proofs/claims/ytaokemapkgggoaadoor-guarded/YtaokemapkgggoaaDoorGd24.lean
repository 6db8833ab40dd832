import Derived.Test.YtaokemapkgggoaaDoorGd23
namespace Go.Proofs.YtaokemapkgggoaaDoor
open Go.RowKit

theorem str1 {a : Int} (a0 : 0 ≤ a) (a1 : a < 256) : strOfNums [a] = str [b8 a] := by
  rw [strOfNums_str]
  simp only [toBytes, List.map_cons, List.map_nil]
  rw [toBytes_b8 a0 a1]
theorem PdAt.drew {w : World} {g : Nat} {d : Dv} (h : PdAt w g d) : PdAt w.drew g d := Row.drew h
theorem PdAt.alloc {w : World} {g : Nat} {d : Dv} (h : PdAt w g d) (o : Obj) : PdAt (w.alloc o) g d := Row.alloc h o

set_option maxRecDepth 100000 in
set_option maxHeartbeats 1000000 in
theorem prog_refuse_A (w0 w : World) (g j : Nat) (d : Dv) (x : UInt8) (h : PdAt w g d) (ok : d.sound) (hW : Row w j (bcells (d.k.raw x)) 75) (hgr : Two g j w0 w) (ht : ¬ d.k.tries = 0) :
    Calls Tryd.prog 88 #[.pointer (some ⟨g, 0, none⟩), .pointer (some ⟨j, 0, none⟩)] w fun r w' => r = .returned (.tuple #[.int .u8 3, .string (str [b8 d.k.tries])]) ∧ PLeft w0 g j d w' := by
  have c5 := cell_of_bcells hW 5 (by rw [Kep.raw_length ok.good]; omega)
  rw [Kep.raw_tries ok.good] at c5
  have ht0 := ok.t0
  have ht1 := ok.t1
  have HE : Hid (strOfNums [d.k.tries] = str [b8 d.k.tries]) := str1 ht0 (by omega)
  have HL : Hid ((d.k.raw x).length = 100) := Kep.raw_length ok.good
  rw [← HE.out]
  have hcv := fun (W : World) a => conv1d W a W.heap.size rfl
  go_enter Tryd.func88, Tryd.ntmps88
  go_wp2
  go_region
  go_wp2
  go_ret2
  exact ⟨rfl, (h.alloc _).drew, ⟨_, HL.out, (hW.alloc _).drew⟩, Two.drewT (Two.allocT hgr _)⟩

set_option maxRecDepth 100000 in
set_option maxHeartbeats 1000000 in
theorem prog_refuse_B (w0 w : World) (g j : Nat) (d : Dv) (x : UInt8) (h : PdAt w g d) (ok : d.sound) (hW : Row w j (bcells (d.k.raw x)) 75) (hgr : Two g j w0 w) (ht : d.k.tries = 0) (hw : 4294967295 ≤ d.k.num) :
    Calls Tryd.prog 88 #[.pointer (some ⟨g, 0, none⟩), .pointer (some ⟨j, 0, none⟩)] w fun r w' => r = .returned (.tuple #[.int .u8 3, .string (str [b8 0])]) ∧ PLeft w0 g j d w' := by
  have HL : Hid ((d.k.raw x).length = 100) := Kep.raw_length ok.good
  have hnn : d.k.num = 4294967295 := by have := ok.n1; omega
  have HN : Hid (decide (numOf (d.k.raw x) = 4294967295) = true) := by show _ = _; rw [Kep.raw_num ok.good, hnn]; rfl
  have hcv := fun (W : World) a => conv1d W a W.heap.size rfl
  have HT : Hid (bAt (d.k.raw x) 5 = 0) := by show _ = _; rw [Kep.raw_tries ok.good, ht]
  have c5 := cell_of_bcells hW 5 (by rw [HL.out]; omega)
  rw [HT.out] at c5
  go_enter Tryd.func88, Tryd.ntmps88
  go_wp2_with (first | (go_at_call 86; refine (prog_worn w j 0 _ (ImgAt.of_row hW HL.out)).mono ?_; rintro _ w4 ⟨rfl, n4, e4⟩; rw [HN.out]; have hd4 : PdAt w4 g d := (by rw [e4]; exact h); have hW4 : Row w4 j (bcells (d.k.raw x)) 75 := (by rw [e4]; exact hW); have hg4 : Two g j w0 w4 := (by rw [e4]; exact hgr.trans (.ofB (below_drewN (Below.refl _ _) _))); clear e4 c5; have c5 := cell_of_bcells hW4 5 (by rw [HL.out]; omega); rw [HT.out] at c5))
  go_region
  go_wp2
  go_ret2
  exact ⟨rfl, (hd4.alloc _).drew, ⟨_, HL.out, (hW4.alloc _).drew⟩, Two.drewT (Two.allocT hg4 _)⟩

set_option maxRecDepth 100000 in
set_option maxHeartbeats 1000000 in
theorem prog_refuse_C (w0 w : World) (g j : Nat) (d : Dv) (x : UInt8) (h : PdAt w g d) (f : d.fit) (ok : d.sound) (hW : Row w j (bcells (d.k.raw x)) 75) (hgj : ¬ g = j) (hgr : Two g j w0 w) (ht : d.k.tries = 0) (hw : ¬ 4294967295 ≤ d.k.num) (hc : whole d.cut) :
    Calls Tryd.prog 88 #[.pointer (some ⟨g, 0, none⟩), .pointer (some ⟨j, 0, none⟩)] w fun r w' => r = .returned (.tuple #[.int .u8 3, .string (str [b8 0])]) ∧ PLeft w0 g j (d.wrote d.k.bare) w' := by
  have HL : Hid ((d.k.raw x).length = 100) := Kep.raw_length ok.good
  have HN : Hid (decide (numOf (d.k.raw x) = 4294967295) = false) := by show _ = _; rw [Kep.raw_num ok.good]; exact decide_eq_false (by omega)
  have hcv := fun (W : World) a => conv1d W a W.heap.size rfl
  have HT : Hid (bAt (d.k.raw x) 5 = 0) := by show _ = _; rw [Kep.raw_tries ok.good, ht]
  have c5 := cell_of_bcells hW 5 (by rw [HL.out]; omega)
  rw [HT.out] at c5
  have hgd : d.k.bare.good := ⟨ok.good.n0, ok.good.n1, ok.good.t0, ok.good.t1, ok.good.pin, Nat.zero_le _, Nat.zero_le _, Nat.zero_le _, Nat.zero_le _⟩
  have hgd2 : (d.k.bare.next (d.k.num + 1)).good := ⟨by have := ok.n0; simp only [Kep.next]; omega, by have := ok.n1; simp only [Kep.next]; omega, hgd.t0, hgd.t1, hgd.pin, hgd.k0, hgd.k1, hgd.k2, hgd.k3⟩
  have HX : Hid ((d.k.raw x).take 15 ++ List.replicate 84 0 ++ (d.k.raw x).drop 99 = d.k.bare.raw x) := Kep.raw_bare ok.good
  have HT2 : Hid (∀ y, bAt ((d.k.bare.next (d.k.num + 1)).raw y) 5 = 0) := fun y => by rw [Kep.raw_tries hgd2]; exact ht
  go_enter Tryd.func88, Tryd.ntmps88
  go_wp2_with (first | (go_at_call 86; refine (prog_worn w j 0 _ (ImgAt.of_row hW HL.out)).mono ?_; rintro _ w4 ⟨rfl, n4, e4⟩; rw [HN.out]; have hd4 : PdAt w4 g d := (by rw [e4]; exact h); have hW4 : Row w4 j (bcells (d.k.raw x)) 75 := (by rw [e4]; exact hW); have hg4 : Two g j w0 w4 := (by rw [e4]; exact hgr.trans (.ofB (below_drewN (Below.refl _ _) _))); clear e4 c5) | (go_at_call 92; refine (prog_dropKeys w4 j _ hW4 HL.out).mono ?_; rintro _ w5 ⟨rfl, hW5, hg5⟩; rw [HX.out] at hW5; have hd5 : PdAt w5 g d := Row.grown hd4 hg5 hgj; have hgr5 : Two g j w0 w5 := hg4.trans (.of2 hg5); clear hg5 hW4) | (go_at_call 87; refine (prog_writeD w0 w5 g j d d.k.bare x hd5 f ok hgd rfl (by omega) hW5 hc hgj hgr5).mono ?_; rintro _ w6 ⟨rfl, hd6, ⟨y, hW6⟩, hg6⟩; have c5 := cell_of_bcells hW6 5 (by rw [Kep.raw_length hgd2]; omega); rw [HT2.out] at c5))
  go_region
  go_wp2
  go_ret2
  exact ⟨rfl, (hd6.alloc _).drew, ⟨_, Kep.raw_length hgd2, (hW6.alloc _).drew⟩, Two.drewT (Two.allocT hg6 _)⟩
set_option maxRecDepth 100000 in
set_option maxHeartbeats 1000000 in
theorem prog_refuse_T (w0 w : World) (g j : Nat) (d : Dv) (x : UInt8) (h : PdAt w g d) (f : d.fit) (ok : d.sound) (hW : Row w j (bcells (d.k.raw x)) 75) (hgj : ¬ g = j) (hgr : Two g j w0 w) (ht : d.k.tries = 0) (hw : ¬ 4294967295 ≤ d.k.num) (hc : 0 ≤ d.cut ∧ d.cut < 101) :
    Calls Tryd.prog 88 #[.pointer (some ⟨g, 0, none⟩), .pointer (some ⟨j, 0, none⟩)] w fun r w' => r = lost ∧ PLost w0 g j (d.torn d.k.bare) w' := by
  have HL : Hid ((d.k.raw x).length = 100) := Kep.raw_length ok.good
  have HN : Hid (decide (numOf (d.k.raw x) = 4294967295) = false) := by show _ = _; rw [Kep.raw_num ok.good]; exact decide_eq_false (by omega)
  have HT : Hid (bAt (d.k.raw x) 5 = 0) := by show _ = _; rw [Kep.raw_tries ok.good, ht]
  have c5 := cell_of_bcells hW 5 (by rw [HL.out]; omega)
  rw [HT.out] at c5
  have hgd : d.k.bare.good := ⟨ok.good.n0, ok.good.n1, ok.good.t0, ok.good.t1, ok.good.pin, Nat.zero_le _, Nat.zero_le _, Nat.zero_le _, Nat.zero_le _⟩
  have HX : Hid ((d.k.raw x).take 15 ++ List.replicate 84 0 ++ (d.k.raw x).drop 99 = d.k.bare.raw x) := Kep.raw_bare ok.good
  go_enter Tryd.func88, Tryd.ntmps88
  go_wp2_with (first | (go_at_call 86; refine (prog_worn w j 0 _ (ImgAt.of_row hW HL.out)).mono ?_; rintro _ w4 ⟨rfl, n4, e4⟩; rw [HN.out]; have hd4 : PdAt w4 g d := (by rw [e4]; exact h); have hW4 : Row w4 j (bcells (d.k.raw x)) 75 := (by rw [e4]; exact hW); have hg4 : Two g j w0 w4 := (by rw [e4]; exact hgr.trans (.ofB (below_drewN (Below.refl _ _) _))); clear e4 c5) | (go_at_call 92; refine (prog_dropKeys w4 j _ hW4 HL.out).mono ?_; rintro _ w5 ⟨rfl, hW5, hg5⟩; rw [HX.out] at hW5; have hd5 : PdAt w5 g d := Row.grown hd4 hg5 hgj; have hgr5 : Two g j w0 w5 := hg4.trans (.of2 hg5); clear hg5 hW4) | (go_at_call 87; refine (prog_writeT w0 w5 g j d d.k.bare x hd5 f ok hgd rfl (by omega) hW5 hc hgj hgr5).mono ?_; rintro _ w6 ⟨hr6, hl6⟩; rw [lost_is] at hr6; subst hr6))
  exact ⟨rfl, rfl, hl6⟩
end Go.Proofs.YtaokemapkgggoaaDoor
