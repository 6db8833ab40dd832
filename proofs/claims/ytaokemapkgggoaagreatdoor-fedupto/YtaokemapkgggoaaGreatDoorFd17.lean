import Derived.Test.YtaokemapkgggoaaGreatDoorFd16
namespace Go.Proofs.YtaokemapkgggoaaGreatDoor
open Go.RowKit

section
variable {P : Program} {ops : Array Oper} {rest : List Oper} {o : Oper} {a : Act} {K : Act → World → Prop} {Q : Exit → Act → World → Prop}
/-- a struct stored into the block that was made last -/
theorem wpList_storeMS {W : World} (hgd : o.guard = none) (ty : TypeId) (x y : Operand) (ho : o.op = .store ty x y) (g : Nat) (hx : a.eval x = .pointer (some ⟨g, 0, none⟩)) (hg : g = W.heap.size) (ds : List Value) (hy : a.eval y = .agg ds.toArray) (t : TypeId) (cs : List Value)
    (hsz : (P.info? ty).map (·.size) = some ds.length) (hc : cs.length = ds.length) (h1 : ∀ v ∈ ds, v.oneCell' = true)
    (h : ∀ w', Row w' W.heap.size ds t → Below W.heap.size W w' → wpList P ops Q rest (a.put o.dst undef) w') : wpList P ops Q (o :: rest) a (W.alloc (.cells cs.toArray t)) := by
  subst hg
  refine wpList_plain hgd fun _ hK => ?_
  have hs := run_storeVar_row (P := P) (W.alloc (.cells cs.toArray t)) W.heap.size t ty cs.toArray ds.toArray (Row.made W cs t) (by rw [hsz]; simp) (by simp [hc]) (Array.all_eq_true_iff_forall_mem.2 (fun v hv => h1 v (by simpa using hv)))
  unfold Oper.wp execOp
  simp only [ho, hx, hy, Instr.storeAt, Instr.sureAddr, Sem.run_bind, Sem.run_pure, Result.andThen_ok, hs]
  have e := setRow_made W cs.toArray ds.toArray t W.heap.size rfl
  rw [e]
  exact hK _ _ (h _ (Row.made W ds t) ((Below.refl _ _).alloc (Nat.le_refl _) _))
end

theorem ref_write (w : World) (g : Nat) (d : Dv) (k : Kep) (h : DvAt w g d) (hk : k.fair) (hn0 : 0 ≤ d.k.num) (hn1 : d.k.num < 4294967296) (hwh : d.wh = 0 ∨ d.wh = 1) (hcut : d.cut < 0) :
    Calls Tryz.prog 84 #[.pointer (some ⟨g, 0, none⟩), .agg k.cells.toArray] w fun r w' => r = .returned (.bool true) ∧ DvAt w' g (d.wrote k) ∧ w.grownBy w' (some g) := by
  rcases hwh with hwh | hwh
  · exact ref_write0 w g d k h hk hn0 hn1 hwh hcut
  · exact ref_write1 w g d k h hk hn0 hn1 hwh hcut

/-- what stands in a device that was made by New, and its power never cut -/
structure Dv.ok (d : Dv) : Prop where
  n0 : 1 ≤ d.k.num
  n1 : d.k.num ≤ 4294967295
  t0 : 0 ≤ d.k.tries
  t1 : d.k.tries ≤ 5
  p0 : 1 ≤ d.k.pin.size
  p1 : d.k.pin.size ≤ 8
  k0 : d.k.k0.size ≤ 20
  k1 : d.k.k1.size ≤ 20
  k2 : d.k.k2.size ≤ 20
  k3 : d.k.k3.size ≤ 20
  wh : d.wh = 0 ∨ d.wh = 1
  off : d.off = false
  cut : d.cut < 0
theorem Dv.ok.fair {d : Dv} (h : d.ok) : d.k.fair := ⟨by have := h.n0; omega, by have := h.n1; omega, by have := h.t0; omega, by have := h.t1; omega, by have := h.p1; omega, by have := h.k0; omega, by have := h.k1; omega, by have := h.k2; omega, by have := h.k3; omega⟩

def Kep.less (k : Kep) : Kep := { k with tries := k.tries - 1 }
def Kep.full (k : Kep) : Kep := { k with tries := 5 }
def Kep.bare (k : Kep) : Kep := { k with k0 := ⟨#[]⟩, k1 := ⟨#[]⟩, k2 := ⟨#[]⟩, k3 := ⟨#[]⟩ }
def Dv.lock (d : Dv) : Dv := { d with unl := false }
def Dv.open (d : Dv) : Dv := { d with unl := true }
/-- a PIN is tried -/
def Dv.unlock (d : Dv) (p : ByteArray) : Dv × Int × List UInt8 :=
  if p.size < 1 ∨ 8 < p.size then (d, 4, [])
  else if d.k.tries = 0 then (d, 5, [])
  else if 4294967295 ≤ d.k.num then (d, 7, [])
  else if p ≠ d.k.pin then
    (if d.k.tries - 1 = 0 ∧ ¬ 4294967295 ≤ d.k.num + 1 then (d.wrote d.k.less).lock.wrote d.k.less.bare else (d.wrote d.k.less).lock, 3, [b8 (d.k.tries - 1)])
  else if 4294967295 ≤ d.k.num + 1 then ((d.wrote d.k.less).lock, 7, [])
  else (((d.wrote d.k.less).wrote d.k.less.full).open, 0, [])
end Go.Proofs.YtaokemapkgggoaaGreatDoor

namespace Go.Proofs.YtaokemapkgggoaaGreatDoor
open Go.RowKit

/-- what a command of the document's device leaves -/
def Left (g : Nat) (w : World) (x : Dv × Int × List UInt8) (r : Ending) (w' : World) : Prop :=
  r = .returned (.tuple #[.int .i64 x.2.1, .string (str x.2.2)]) ∧ DvAt w' g x.1 ∧ w.grownBy w' (some g)

set_option maxRecDepth 100000 in
set_option maxHeartbeats 1000000 in
theorem ref_unlock_early (w : World) (g : Nat) (d : Dv) (p : ByteArray) (h : DvAt w g d) (hp : p.size < 1000000) (he : (p.size < 1 ∨ 8 < p.size) ∨ d.k.tries = 0 ∨ 4294967295 ≤ d.k.num) :
    Calls Tryz.prog 81 #[.pointer (some ⟨g, 0, none⟩), .string p] w (Left g w (d.unlock p)) := by
  by_cases h1 : p.size < 1 ∨ 8 < p.size
  · have e : d.unlock p = (d, 4, []) := by unfold Dv.unlock; rw [if_pos h1]
    rw [e]
    by_cases h1a : p.size < 1
    · have h1' : (p.size : Int) < 1 := by omega
      go_enter Tryz.func81, Tryz.ntmps81
      go_wp2
      go_ret2
      exact ⟨rfl, h, World.grownBy.refl _ _⟩
    · have h1' : ¬ (p.size : Int) < 1 := by omega
      have h1'' : (8 : Int) < p.size := by omega
      go_enter Tryz.func81, Tryz.ntmps81
      go_wp2
      go_ret2
      exact ⟨rfl, h, World.grownBy.refl _ _⟩
  · have h1' : ¬ (p.size : Int) < 1 := by omega
    have h1'' : ¬ (8 : Int) < p.size := by omega
    obtain ⟨c0, c1, c2, c3, c4, -⟩ := h.c
    by_cases h2 : d.k.tries = 0
    · have e : d.unlock p = (d, 5, []) := by unfold Dv.unlock; rw [if_neg h1, if_pos h2]
      rw [e]
      go_enter Tryz.func81, Tryz.ntmps81
      go_wp2
      go_ret2
      exact ⟨rfl, h, World.grownBy.refl _ _⟩
    · have h3 : 4294967295 ≤ d.k.num := by
        rcases he with he | he | he
        · exact absurd he h1
        · exact absurd he h2
        · exact he
      have e : d.unlock p = (d, 7, []) := by unfold Dv.unlock; rw [if_neg h1, if_neg h2, if_pos h3]
      rw [e]
      go_enter Tryz.func81, Tryz.ntmps81
      go_wp2_with (go_at_call 83; refine (ref_worn _ g d h).mono ?_; rintro _ _ ⟨rfl, rfl⟩)
      go_ret2
      exact ⟨rfl, h, World.grownBy.refl _ _⟩

/-- the try itself -/
theorem ret_pair {st : Int} {a b : ByteArray} (h : a = b) : Ending.returned (.tuple #[.int .i64 st, .string a]) = .returned (.tuple #[.int .i64 st, .string b]) := by rw [h]
theorem b8_str (x : Int) : strOfNums [x % 256] = str [b8 x] := rfl
theorem grown_drew {w W : World} {r : Option Nat} (h : w.grownBy W r) : w.grownBy W.drew r := ⟨h.os, h.tape, h.output, h.size, h.block⟩
theorem grown_alloc {w W : World} {r : Option Nat} (h : w.grownBy W r) (o : Obj) : w.grownBy (W.alloc o) r := h.trans (World.grownBy_alloc W o r)
theorem size_setCell (W : World) (A : Addr) (v : Value) : (W.setCell A v).heap.size = W.heap.size := by simp [World.setCell]
theorem bytes_ne {a b : ByteArray} (h : ¬ a = b) : (a.toList == b.toList) = false := by
  rw [ByteArray.toList_eq, ByteArray.toList_eq, beq_eq_false_iff_ne]
  intro e
  exact h (ByteArray.ext (Array.toList_inj.1 e))
theorem Row.grown {w w' : World} {g b : Nat} {cs : List Value} {t : TypeId} (h : Row w b cs t) (hg : w.grownBy w' (some g)) (hne : ¬ b = g) : Row w' b cs t := by
  unfold Row; rw [hg.block b h.lt (by intro e; exact hne (Option.some.inj e))]; exact h

set_option maxRecDepth 100000 in
set_option maxHeartbeats 1000000 in
theorem ref_unlock_worn (w : World) (g : Nat) (d : Dv) (p : ByteArray) (h : DvAt w g d) (ok : d.ok) (hs1 : 1 ≤ p.size) (hs2 : p.size ≤ 8) (ht : ¬ d.k.tries = 0) (hw : ¬ 4294967295 ≤ d.k.num) (hq : p = d.k.pin) (hw2 : 4294967295 ≤ d.k.num + 1) :
    Calls Tryz.prog 81 #[.pointer (some ⟨g, 0, none⟩), .string p] w (Left g w (d.unlock p)) := by
  have HE : Hid (d.unlock p = ((d.wrote d.k.less).lock, 7, [])) := by show _ = _; unfold Dv.unlock; rw [if_neg (by omega), if_neg ht, if_neg hw, if_neg (by simp [hq]), if_pos hw2]
  obtain ⟨sm, h0, h1, ⟨dn, dt, dp, d0, d1, d2, d3⟩, wh, unl, off, cut, inn⟩ := d
  obtain ⟨hn0, hn1, ht0, ht1, hp0, hp1, hk0, hk1, hk2, hk3, hwh, hoff, hcut⟩ := ok
  simp only at hn0 hn1 ht0 ht1 hp0 hp1 hk0 hk1 hk2 hk3 hwh hoff hcut ht hw hq hw2
  have q0 : ¬ (p.size : Int) < 1 := by omega
  have q1 : ¬ (8 : Int) < p.size := by omega
  have q2 : ¬ dt = 0 := by omega
  have q3 : ¬ (4294967295 : Int) ≤ dn := by omega
  have hgl : g < w.heap.size := h.lt
  have hne : ¬ g = w.heap.size := by omega
  have hne' : ¬ w.heap.size = g := by omega
  obtain ⟨c0, c1, c2, c3, c4, c5, c6, c7, c8, c9, -⟩ := h.c
  simp only at c0 c1 c2 c3 c4 c5 c6 c7 c8 c9
  have kf1 : Kep.fair ⟨dn, dt - 1, dp, d0, d1, d2, d3⟩ := ⟨by simp only; omega, by simp only; omega, by simp only; omega, by simp only; omega, by simp only; omega, by simp only; omega, by simp only; omega, by simp only; omega, by simp only; omega⟩
  have kf5 : Kep.fair ⟨dn, 5, dp, d0, d1, d2, d3⟩ := ⟨kf1.n0, kf1.n1, by simp only; omega, by simp only; omega, kf1.pin, kf1.k0, kf1.k1, kf1.k2, kf1.k3⟩
  rw [HE.out]
  go_enter Tryz.func81, Tryz.ntmps81
  go_wp2_with (first | (go_at_call 84; have tok := kf1; clear kf1; refine (ref_write _ g ⟨sm, h0, h1, ⟨dn, dt, dp, d0, d1, d2, d3⟩, wh, unl, off, cut, inn⟩ ⟨dn, dt - 1, dp, d0, d1, d2, d3⟩ (Row.alloc h _) tok (by simp only; omega) (by simp only; omega) hwh hcut).mono ?_; rintro _ w2 ⟨rfl, hd2, hg2⟩; have hr2 : Row w2 w.heap.size [.int .i64 dn, .int .i64 (dt - 1), .string dp, .string d0, .string d1, .string d2, .string d3] 34 := Row.grown (Row.made w _ _) hg2 hne'; have hgr : w.grownBy w2 (some g) := (World.grownBy_alloc w _ _).trans hg2; clear hg2 c0 c1 c2 c3 c4 c5 c6 c7 c8 c9; obtain ⟨dv, HDV⟩ := (⟨_, rfl⟩ : ∃ dv, Hid (dv = Dv.wrote ⟨sm, h0, h1, ⟨dn, dt, dp, d0, d1, d2, d3⟩, wh, unl, off, cut, inn⟩ ⟨dn, dt - 1, dp, d0, d1, d2, d3⟩)); rw [← HDV.out] at hd2; have hdn : dv.k.num = dn + 1 := (by rw [HDV.out]; rfl); obtain ⟨b0, b1, b2, b3, b4, b5, b6⟩ := row7 hr2; have fz := hd2.frozen; have fb := hr2.frozen; obtain ⟨c0, c1, c2, c3, c4, c5, c6, c7, c8, c9, c10, c11, -⟩ := hd2.c) | (go_at_call 83; refine (ref_worn w g _ h).mono ?_; rintro _ w9 ⟨rfl, e9⟩; rw [e9]; clear e9 w9) | (go_at_call 83; refine (ref_worn w2 g dv hd2).mono ?_; rintro _ w9 ⟨rfl, e9⟩; rw [e9, hdn]; clear e9 w9))
  go_ret2
  refine ⟨rfl, ?_, grown_set hgr 11 _⟩
  have hfin := Row.setCell hd2 11 (.bool false)
  rw [HDV.out] at hfin
  exact hfin

set_option maxRecDepth 100000 in
set_option maxHeartbeats 1000000 in
theorem ref_unlock_yes (w : World) (g : Nat) (d : Dv) (p : ByteArray) (h : DvAt w g d) (ok : d.ok) (hs1 : 1 ≤ p.size) (hs2 : p.size ≤ 8) (ht : ¬ d.k.tries = 0) (hw : ¬ 4294967295 ≤ d.k.num) (hq : p = d.k.pin) (hw2 : ¬ 4294967295 ≤ d.k.num + 1) :
    Calls Tryz.prog 81 #[.pointer (some ⟨g, 0, none⟩), .string p] w (Left g w (d.unlock p)) := by
  have HE : Hid (d.unlock p = (((d.wrote d.k.less).wrote d.k.less.full).open, 0, [])) := by show _ = _; unfold Dv.unlock; rw [if_neg (by omega), if_neg ht, if_neg hw, if_neg (by simp [hq]), if_neg hw2]
  obtain ⟨sm, h0, h1, ⟨dn, dt, dp, d0, d1, d2, d3⟩, wh, unl, off, cut, inn⟩ := d
  obtain ⟨hn0, hn1, ht0, ht1, hp0, hp1, hk0, hk1, hk2, hk3, hwh, hoff, hcut⟩ := ok
  simp only at hn0 hn1 ht0 ht1 hp0 hp1 hk0 hk1 hk2 hk3 hwh hoff hcut ht hw hq hw2
  have q0 : ¬ (p.size : Int) < 1 := by omega
  have q1 : ¬ (8 : Int) < p.size := by omega
  have q2 : ¬ dt = 0 := by omega
  have q3 : ¬ (4294967295 : Int) ≤ dn := by omega
  have hgl : g < w.heap.size := h.lt
  have hne : ¬ g = w.heap.size := by omega
  have hne' : ¬ w.heap.size = g := by omega
  obtain ⟨c0, c1, c2, c3, c4, c5, c6, c7, c8, c9, -⟩ := h.c
  simp only at c0 c1 c2 c3 c4 c5 c6 c7 c8 c9
  have kf1 : Kep.fair ⟨dn, dt - 1, dp, d0, d1, d2, d3⟩ := ⟨by simp only; omega, by simp only; omega, by simp only; omega, by simp only; omega, by simp only; omega, by simp only; omega, by simp only; omega, by simp only; omega, by simp only; omega⟩
  have kf5 : Kep.fair ⟨dn, 5, dp, d0, d1, d2, d3⟩ := ⟨kf1.n0, kf1.n1, by simp only; omega, by simp only; omega, kf1.pin, kf1.k0, kf1.k1, kf1.k2, kf1.k3⟩
  rw [HE.out]
  go_enter Tryz.func81, Tryz.ntmps81
  go_wp2_with (first | (go_at_call 84; have tok := kf1; clear kf1; refine (ref_write _ g ⟨sm, h0, h1, ⟨dn, dt, dp, d0, d1, d2, d3⟩, wh, unl, off, cut, inn⟩ ⟨dn, dt - 1, dp, d0, d1, d2, d3⟩ (Row.alloc h _) tok (by simp only; omega) (by simp only; omega) hwh hcut).mono ?_; rintro _ w2 ⟨rfl, hd2, hg2⟩; have hr2 : Row w2 w.heap.size [.int .i64 dn, .int .i64 (dt - 1), .string dp, .string d0, .string d1, .string d2, .string d3] 34 := Row.grown (Row.made w _ _) hg2 hne'; have hgr : w.grownBy w2 (some g) := (World.grownBy_alloc w _ _).trans hg2; clear hg2 c0 c1 c2 c3 c4 c5 c6 c7 c8 c9; obtain ⟨dv, HDV⟩ := (⟨_, rfl⟩ : ∃ dv, Hid (dv = Dv.wrote ⟨sm, h0, h1, ⟨dn, dt, dp, d0, d1, d2, d3⟩, wh, unl, off, cut, inn⟩ ⟨dn, dt - 1, dp, d0, d1, d2, d3⟩)); rw [← HDV.out] at hd2; have hdn : dv.k.num = dn + 1 := (by rw [HDV.out]; rfl); obtain ⟨b0, b1, b2, b3, b4, b5, b6⟩ := row7 hr2; have fz := hd2.frozen; have fb := hr2.frozen; obtain ⟨c0, c1, c2, c3, c4, c5, c6, c7, c8, c9, c10, c11, -⟩ := hd2.c) | (go_at_call 83; refine (ref_worn w g _ h).mono ?_; rintro _ w9 ⟨rfl, e9⟩; rw [e9]; clear e9 w9) | (go_at_call 83; refine (ref_worn w2 g dv hd2).mono ?_; rintro _ w9 ⟨rfl, e9⟩; rw [e9, hdn]; clear e9 w9) | (go_at_call 84; refine (ref_write _ g dv ⟨dn, 5, dp, d0, d1, d2, d3⟩ (Row.setCell_other hd2 ⟨w.heap.size, 1, none⟩ _ hne) kf5 (by rw [hdn]; omega) (by rw [hdn]; omega) (by rw [HDV.out]; simp only [Dv.wrote]; omega) (by rw [HDV.out]; simp only [Dv.wrote]; rw [if_pos hcut]; exact hcut)).mono ?_; rintro _ w3 ⟨rfl, hd3, hg3⟩; have hgr3 : w.grownBy w3 (some g) := (grown_new hgr w.heap.size 1 _ (Nat.le_refl _)).trans hg3; clear c0 c1 c2 c3 c4 c5 c6 c7 c8 c9 c10 c11 b0 b1 b2 b3 b4 b5 b6 fz fb hg3; have fz := hd3.frozen; obtain ⟨c0, c1, c2, c3, c4, c5, c6, c7, c8, c9, c10, c11, -⟩ := hd3.c))
  go_ret2
  refine ⟨rfl, ?_, grown_set hgr3 11 _⟩
  have hfin := Row.setCell hd3 11 (.bool true)
  rw [HDV.out] at hfin
  exact hfin

set_option maxRecDepth 100000 in
set_option maxHeartbeats 1000000 in
theorem ref_unlock_noA (w : World) (g : Nat) (d : Dv) (p : ByteArray) (h : DvAt w g d) (ok : d.ok) (hs1 : 1 ≤ p.size) (hs2 : p.size ≤ 8) (ht : ¬ d.k.tries = 0) (hw : ¬ 4294967295 ≤ d.k.num) (hq : ¬ p = d.k.pin) (hz : ¬ d.k.tries - 1 = 0) :
    Calls Tryz.prog 81 #[.pointer (some ⟨g, 0, none⟩), .string p] w (Left g w (d.unlock p)) := by
  have HE : Hid (d.unlock p = ((d.wrote d.k.less).lock, 3, [b8 (d.k.tries - 1)])) := by show _ = _; unfold Dv.unlock; rw [if_neg (by omega), if_neg ht, if_neg hw, if_pos hq, if_neg (fun h => hz h.1)]
  obtain ⟨sm, h0, h1, ⟨dn, dt, dp, d0, d1, d2, d3⟩, wh, unl, off, cut, inn⟩ := d
  obtain ⟨hn0, hn1, ht0, ht1, hp0, hp1, hk0, hk1, hk2, hk3, hwh, hoff, hcut⟩ := ok
  simp only at hn0 hn1 ht0 ht1 hp0 hp1 hk0 hk1 hk2 hk3 hwh hoff hcut ht hw hq hz
  have q0 : ¬ (p.size : Int) < 1 := by omega
  have q1 : ¬ (8 : Int) < p.size := by omega
  have q2 : ¬ dt = 0 := by omega
  have q3 : ¬ (4294967295 : Int) ≤ dn := by omega
  have hgl : g < w.heap.size := h.lt
  have hne : ¬ g = w.heap.size := by omega
  have hne' : ¬ w.heap.size = g := by omega
  obtain ⟨c0, c1, c2, c3, c4, c5, c6, c7, c8, c9, -⟩ := h.c
  simp only at c0 c1 c2 c3 c4 c5 c6 c7 c8 c9
  have kf1 : Kep.fair ⟨dn, dt - 1, dp, d0, d1, d2, d3⟩ := ⟨by simp only; omega, by simp only; omega, by simp only; omega, by simp only; omega, by simp only; omega, by simp only; omega, by simp only; omega, by simp only; omega, by simp only; omega⟩
  have hqn := bytes_ne hq
  have hcv := fun (W : World) (A : Addr) (v : Value) a => conv1d (W.setCell A v) a W.heap.size (size_setCell W A v).symm
  have hw8 : ∀ x : Int, IntKind.u8.wrap x = x % 256 := u8_wrap
  rw [HE.out]
  go_enter Tryz.func81, Tryz.ntmps81
  go_wp2_with (first | (go_at_call 84; have tok := kf1; clear kf1; refine (ref_write _ g ⟨sm, h0, h1, ⟨dn, dt, dp, d0, d1, d2, d3⟩, wh, unl, off, cut, inn⟩ ⟨dn, dt - 1, dp, d0, d1, d2, d3⟩ (Row.alloc h _) tok (by simp only; omega) (by simp only; omega) hwh hcut).mono ?_; rintro _ w2 ⟨rfl, hd2, hg2⟩; have hr2 : Row w2 w.heap.size [.int .i64 dn, .int .i64 (dt - 1), .string dp, .string d0, .string d1, .string d2, .string d3] 34 := Row.grown (Row.made w _ _) hg2 hne'; have hgr : w.grownBy w2 (some g) := (World.grownBy_alloc w _ _).trans hg2; clear hg2 c0 c1 c2 c3 c4 c5 c6 c7 c8 c9; obtain ⟨dv, HDV⟩ := (⟨_, rfl⟩ : ∃ dv, Hid (dv = Dv.wrote ⟨sm, h0, h1, ⟨dn, dt, dp, d0, d1, d2, d3⟩, wh, unl, off, cut, inn⟩ ⟨dn, dt - 1, dp, d0, d1, d2, d3⟩)); rw [← HDV.out] at hd2; have hdn : dv.k.num = dn + 1 := (by rw [HDV.out]; rfl); obtain ⟨b0, b1, b2, b3, b4, b5, b6⟩ := row7 hr2; have fz := hd2.frozen; have fb := hr2.frozen; obtain ⟨c0, c1, c2, c3, c4, c5, c6, c7, c8, c9, c10, c11, -⟩ := hd2.c) | (go_at_call 83; refine (ref_worn w g _ h).mono ?_; rintro _ w9 ⟨rfl, e9⟩; rw [e9]; clear e9 w9) | (go_at_call 83; refine (ref_worn w2 g dv hd2).mono ?_; rintro _ w9 ⟨rfl, e9⟩; rw [e9, hdn]; clear e9 w9))
  go_region
  go_wp2
  go_ret2
  refine ⟨ret_pair (b8_str _), ?_, grown_drew (grown_alloc (grown_set hgr 11 _) _)⟩
  have hfin := ((Row.setCell hd2 11 (.bool false)).alloc (.cells #[.int .u8 ((dt - 1) % 256)] 5)).drew
  rw [HDV.out] at hfin
  exact hfin

set_option maxRecDepth 100000 in
set_option maxHeartbeats 1000000 in
theorem ref_unlock_noB (w : World) (g : Nat) (d : Dv) (p : ByteArray) (h : DvAt w g d) (ok : d.ok) (hs1 : 1 ≤ p.size) (hs2 : p.size ≤ 8) (ht : ¬ d.k.tries = 0) (hw : ¬ 4294967295 ≤ d.k.num) (hq : ¬ p = d.k.pin) (hz : d.k.tries - 1 = 0) (hw2 : 4294967295 ≤ d.k.num + 1) :
    Calls Tryz.prog 81 #[.pointer (some ⟨g, 0, none⟩), .string p] w (Left g w (d.unlock p)) := by
  have HE : Hid (d.unlock p = ((d.wrote d.k.less).lock, 3, [b8 (d.k.tries - 1)])) := by show _ = _; unfold Dv.unlock; rw [if_neg (by omega), if_neg ht, if_neg hw, if_pos hq, if_neg (fun h => h.2 hw2)]
  obtain ⟨sm, h0, h1, ⟨dn, dt, dp, d0, d1, d2, d3⟩, wh, unl, off, cut, inn⟩ := d
  obtain ⟨hn0, hn1, ht0, ht1, hp0, hp1, hk0, hk1, hk2, hk3, hwh, hoff, hcut⟩ := ok
  simp only at hn0 hn1 ht0 ht1 hp0 hp1 hk0 hk1 hk2 hk3 hwh hoff hcut ht hw hq hz hw2
  obtain rfl : dt = 1 := by omega
  clear hz
  have q0 : ¬ (p.size : Int) < 1 := by omega
  have q1 : ¬ (8 : Int) < p.size := by omega
  have q2 : ¬ (1 : Int) = 0 := by omega
  have q3 : ¬ (4294967295 : Int) ≤ dn := by omega
  have hgl : g < w.heap.size := h.lt
  have hne : ¬ g = w.heap.size := by omega
  have hne' : ¬ w.heap.size = g := by omega
  obtain ⟨c0, c1, c2, c3, c4, c5, c6, c7, c8, c9, -⟩ := h.c
  simp only at c0 c1 c2 c3 c4 c5 c6 c7 c8 c9
  have kf1 : Kep.fair ⟨dn, 0, dp, d0, d1, d2, d3⟩ := ⟨by simp only; omega, by simp only; omega, by simp only; omega, by simp only; omega, by simp only; omega, by simp only; omega, by simp only; omega, by simp only; omega, by simp only; omega⟩
  have hqn := bytes_ne hq
  have hcv := fun (W : World) (A : Addr) (v : Value) a => conv1d (W.setCell A v) a W.heap.size (size_setCell W A v).symm
  have hw8 : ∀ x : Int, IntKind.u8.wrap x = x % 256 := u8_wrap
  rw [HE.out]
  go_enter Tryz.func81, Tryz.ntmps81
  go_wp2_with (first | (go_at_call 84; have tok := kf1; clear kf1; refine (ref_write _ g ⟨sm, h0, h1, ⟨dn, 1, dp, d0, d1, d2, d3⟩, wh, unl, off, cut, inn⟩ ⟨dn, 0, dp, d0, d1, d2, d3⟩ (Row.alloc h _) tok (by simp only; omega) (by simp only; omega) hwh hcut).mono ?_; rintro _ w2 ⟨rfl, hd2, hg2⟩; have hr2 : Row w2 w.heap.size [.int .i64 dn, .int .i64 (0), .string dp, .string d0, .string d1, .string d2, .string d3] 34 := Row.grown (Row.made w _ _) hg2 hne'; have hgr : w.grownBy w2 (some g) := (World.grownBy_alloc w _ _).trans hg2; clear hg2 c0 c1 c2 c3 c4 c5 c6 c7 c8 c9; obtain ⟨dv, HDV⟩ := (⟨_, rfl⟩ : ∃ dv, Hid (dv = Dv.wrote ⟨sm, h0, h1, ⟨dn, 1, dp, d0, d1, d2, d3⟩, wh, unl, off, cut, inn⟩ ⟨dn, 0, dp, d0, d1, d2, d3⟩)); rw [← HDV.out] at hd2; have hdn : dv.k.num = dn + 1 := (by rw [HDV.out]; rfl); obtain ⟨b0, b1, b2, b3, b4, b5, b6⟩ := row7 hr2; have fz := hd2.frozen; have fb := hr2.frozen; obtain ⟨c0, c1, c2, c3, c4, c5, c6, c7, c8, c9, c10, c11, -⟩ := hd2.c) | (go_at_call 83; refine (ref_worn w g _ h).mono ?_; rintro _ w9 ⟨rfl, e9⟩; rw [e9]; clear e9 w9) | (go_at_call 83; refine (ref_worn w2 g dv hd2).mono ?_; rintro _ w9 ⟨rfl, e9⟩; rw [e9, hdn]; clear e9 w9))
  go_region
  go_wp2
  go_ret2
  refine ⟨ret_pair (rfl), ?_, grown_drew (grown_alloc (grown_set hgr 11 _) _)⟩
  have hfin := ((Row.setCell hd2 11 (.bool false)).alloc (.cells #[.int .u8 0] 5)).drew
  rw [HDV.out] at hfin
  exact hfin

set_option maxRecDepth 100000 in
set_option maxHeartbeats 1000000 in
theorem ref_unlock_noC (w : World) (g : Nat) (d : Dv) (p : ByteArray) (h : DvAt w g d) (ok : d.ok) (hs1 : 1 ≤ p.size) (hs2 : p.size ≤ 8) (ht : ¬ d.k.tries = 0) (hw : ¬ 4294967295 ≤ d.k.num) (hq : ¬ p = d.k.pin) (hz : d.k.tries - 1 = 0) (hw2 : ¬ 4294967295 ≤ d.k.num + 1) :
    Calls Tryz.prog 81 #[.pointer (some ⟨g, 0, none⟩), .string p] w (Left g w (d.unlock p)) := by
  have HE : Hid (d.unlock p = ((d.wrote d.k.less).lock.wrote d.k.less.bare, 3, [b8 (d.k.tries - 1)])) := by show _ = _; unfold Dv.unlock; rw [if_neg (by omega), if_neg ht, if_neg hw, if_pos hq, if_pos ⟨hz, hw2⟩]
  obtain ⟨sm, h0, h1, ⟨dn, dt, dp, d0, d1, d2, d3⟩, wh, unl, off, cut, inn⟩ := d
  obtain ⟨hn0, hn1, ht0, ht1, hp0, hp1, hk0, hk1, hk2, hk3, hwh, hoff, hcut⟩ := ok
  simp only at hn0 hn1 ht0 ht1 hp0 hp1 hk0 hk1 hk2 hk3 hwh hoff hcut ht hw hq hz hw2
  obtain rfl : dt = 1 := by omega
  clear hz
  have q0 : ¬ (p.size : Int) < 1 := by omega
  have q1 : ¬ (8 : Int) < p.size := by omega
  have q2 : ¬ (1 : Int) = 0 := by omega
  have q3 : ¬ (4294967295 : Int) ≤ dn := by omega
  have hgl : g < w.heap.size := h.lt
  have hne : ¬ g = w.heap.size := by omega
  have hne' : ¬ w.heap.size = g := by omega
  obtain ⟨c0, c1, c2, c3, c4, c5, c6, c7, c8, c9, -⟩ := h.c
  simp only at c0 c1 c2 c3 c4 c5 c6 c7 c8 c9
  have kf1 : Kep.fair ⟨dn, 0, dp, d0, d1, d2, d3⟩ := ⟨by simp only; omega, by simp only; omega, by simp only; omega, by simp only; omega, by simp only; omega, by simp only; omega, by simp only; omega, by simp only; omega, by simp only; omega⟩
  have hqn := bytes_ne hq
  have hcv := fun (W : World) a => conv1d W a W.heap.size rfl
  have hw8 : ∀ x : Int, IntKind.u8.wrap x = x % 256 := u8_wrap
  have hwd : decide ((4294967295 : Int) ≤ dn + 1) = false := decide_eq_false hw2
  have kf6 : Kep.fair ⟨dn, 0, dp, ⟨#[]⟩, ⟨#[]⟩, ⟨#[]⟩, ⟨#[]⟩⟩ := ⟨kf1.n0, kf1.n1, kf1.t0, kf1.t1, kf1.pin, Nat.succ_pos _, Nat.succ_pos _, Nat.succ_pos _, Nat.succ_pos _⟩
  rw [HE.out]
  go_enter Tryz.func81, Tryz.ntmps81
  go_wp2_with (first | (go_at_call 84; have tok := kf1; clear kf1; refine (ref_write _ g ⟨sm, h0, h1, ⟨dn, 1, dp, d0, d1, d2, d3⟩, wh, unl, off, cut, inn⟩ ⟨dn, 0, dp, d0, d1, d2, d3⟩ (Row.alloc h _) tok (by simp only; omega) (by simp only; omega) hwh hcut).mono ?_; rintro _ w2 ⟨rfl, hd2, hg2⟩; have hr2 : Row w2 w.heap.size [.int .i64 dn, .int .i64 (0), .string dp, .string d0, .string d1, .string d2, .string d3] 34 := Row.grown (Row.made w _ _) hg2 hne'; have hgr : w.grownBy w2 (some g) := (World.grownBy_alloc w _ _).trans hg2; clear hg2 c0 c1 c2 c3 c4 c5 c6 c7 c8 c9; obtain ⟨dv, HDV⟩ := (⟨_, rfl⟩ : ∃ dv, Hid (dv = Dv.wrote ⟨sm, h0, h1, ⟨dn, 1, dp, d0, d1, d2, d3⟩, wh, unl, off, cut, inn⟩ ⟨dn, 0, dp, d0, d1, d2, d3⟩)); rw [← HDV.out] at hd2; have hdn : dv.k.num = dn + 1 := (by rw [HDV.out]; rfl); obtain ⟨b0, b1, b2, b3, b4, b5, b6⟩ := row7 hr2; have fz := hd2.frozen; have fb := hr2.frozen; obtain ⟨c0, c1, c2, c3, c4, c5, c6, c7, c8, c9, c10, c11, -⟩ := hd2.c) | (go_at_call 83; refine (ref_worn w g _ h).mono ?_; rintro _ w9 ⟨rfl, e9⟩; rw [e9]; clear e9 w9) | (go_at_call 83; refine (ref_worn w2 g dv hd2).mono ?_; rintro _ w9 ⟨rfl, e9⟩; rw [e9, hdn]; clear e9 w9) | (go_at_call 84; have tok := kf6; clear kf6; refine (ref_write _ g dv.lock ⟨dn, 0, dp, ⟨#[]⟩, ⟨#[]⟩, ⟨#[]⟩, ⟨#[]⟩⟩ (Row.setCell_other (Row.setCell_other (Row.setCell_other (Row.setCell_other (Row.setCell hd2 11 (.bool false)) ⟨w.heap.size, 3, none⟩ _ hne) ⟨w.heap.size, 4, none⟩ _ hne) ⟨w.heap.size, 5, none⟩ _ hne) ⟨w.heap.size, 6, none⟩ _ hne) tok (by show 0 ≤ dv.k.num; rw [hdn]; omega) (by show dv.k.num < _; rw [hdn]; omega) (by show dv.wh = 0 ∨ dv.wh = 1; rw [HDV.out]; simp only [Dv.wrote]; omega) (by show dv.cut < 0; rw [HDV.out]; simp only [Dv.wrote]; rw [if_pos hcut]; exact hcut)).mono ?_; rintro _ w3 ⟨rfl, hd3, hg3⟩; have hgr3 : w.grownBy w3 (some g) := (grown_new (grown_new (grown_new (grown_new (grown_set hgr 11 _) w.heap.size 3 _ (Nat.le_refl _)) w.heap.size 4 _ (Nat.le_refl _)) w.heap.size 5 _ (Nat.le_refl _)) w.heap.size 6 _ (Nat.le_refl _)).trans hg3; have hr3 := Row.grown ((((Row.setCell_other hr2 ⟨g, 11, none⟩ (.bool false) hne').setCell 3 (.string ⟨#[]⟩)).setCell 4 (.string ⟨#[]⟩)).setCell 5 (.string ⟨#[]⟩) |>.setCell 6 (.string ⟨#[]⟩)) hg3 hne'; clear c0 c1 c2 c3 c4 c5 c6 c7 c8 c9 c10 c11 b0 b1 b2 b3 b4 b5 b6 fz fb hg3; have b1 := hr3.cell (i := 1)))
  have b1' : w3.cell? ⟨w.heap.size, 1, none⟩ = some (.int .i64 0) := b1
  clear b1
  go_region
  go_wp2
  go_ret2
  refine ⟨ret_pair rfl, ?_, grown_drew (grown_alloc hgr3 _)⟩
  have hfin := (Row.alloc hd3 (.cells #[.int .u8 0] 5)).drew
  rw [HDV.out] at hfin
  exact hfin
end Go.Proofs.YtaokemapkgggoaaGreatDoor
