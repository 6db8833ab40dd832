import Derived.Test.YtaokemapkgggoaaDoorKb10
import Derived.OwnWalk
namespace Go.Proofs.YtaokemapkgggoaaDoor
open Go.RowKit

section
variable {P : Program} {ops : Array Oper} {rest : List Oper} {o : Oper} {a : Act} {K : Act → World → Prop} {Q : Exit → Act → World → Prop}
/-- a struct stored into the block that was made last -/
theorem wpList_storeMS {W : World} (hgd : o.guard = none) (ty : TypeId) (x y : Operand) (ho : o.op = .store ty x y) (g : Nat) (hx : a.eval x = .pointer (some ⟨g, 0, none⟩)) (hg : g = W.heap.size) (ds : List Value) (hy : a.eval y = .agg ds.toArray) (t : TypeId) (cs : List Value)
    (hsz : (P.info? ty).map (·.size) = some ds.length) (hc : cs.length = ds.length) (h1 : ∀ v ∈ ds, v.oneCell' = true)
    (h : ∀ w', Row w' W.heap.size ds t → Below W.heap.size W w' → wpList P ops Q rest (a.put o.dst undef) w') : wpList P ops Q (o :: rest) a (W.alloc (.cells cs.toArray t)) := by
  subst hg
  refine wpList_plain hgd fun _ hK => ?_
  have hs := run_storeVar_row (P := P) (W.alloc (.cells cs.toArray t)) W.heap.size t ty cs.toArray ds.toArray (Row.made W cs t) (by rw [hsz]; simp) (by simp [hc]) (Array.all_eq_true_iff_forall_mem.2 (fun v hv => h1 v (by simpa using hv)))
  unfold Oper.wp execOp
  simp only [ho, hx, hy, Instr.storeAt, Instr.sureAddr, Sem.run_bind, Sem.run_pure, Result.andThen_ok, hs]
  have e := setRow_made W cs.toArray ds.toArray t W.heap.size rfl
  rw [e]
  exact hK _ _ (h _ (Row.made W ds t) ((Below.refl _ _).alloc (Nat.le_refl _) _))
end

/-- what stands in a device that was made by New, and its power never cut -/
structure Dv.ok (d : Dv) : Prop where
  n0 : 1 ≤ d.k.num
  n1 : d.k.num ≤ 4294967295
  t0 : 0 ≤ d.k.tries
  t1 : d.k.tries ≤ 5
  p0 : 1 ≤ d.k.pin.size
  p1 : d.k.pin.size ≤ 8
  k0 : d.k.k0.size ≤ 20
  k1 : d.k.k1.size ≤ 20
  k2 : d.k.k2.size ≤ 20
  k3 : d.k.k3.size ≤ 20
  wh : d.wh = 0 ∨ d.wh = 1
  off : d.off = false
  cut : d.cut < 0
theorem Dv.ok.fair {d : Dv} (h : d.ok) : d.k.fair := ⟨by have := h.n0; omega, by have := h.n1; omega, by have := h.t0; omega, by have := h.t1; omega, by have := h.p1; omega, by have := h.k0; omega, by have := h.k1; omega, by have := h.k2; omega, by have := h.k3; omega⟩

def Kep.less (k : Kep) : Kep := { k with tries := k.tries - 1 }
def Kep.full (k : Kep) : Kep := { k with tries := 5 }
def Kep.bare (k : Kep) : Kep := { k with k0 := ⟨#[]⟩, k1 := ⟨#[]⟩, k2 := ⟨#[]⟩, k3 := ⟨#[]⟩ }
def Dv.lock (d : Dv) : Dv := { d with unl := false }
def Dv.open (d : Dv) : Dv := { d with unl := true }
/-- a PIN is tried -/
def Dv.unlock (d : Dv) (p : ByteArray) : Dv × Int × List UInt8 :=
  if p.size < 1 ∨ 8 < p.size then (d, 4, [])
  else if d.k.tries = 0 then (d, 5, [])
  else if 4294967295 ≤ d.k.num then (d, 7, [])
  else if p ≠ d.k.pin then
    (if d.k.tries - 1 = 0 ∧ ¬ 4294967295 ≤ d.k.num + 1 then (d.wrote d.k.less).lock.wrote d.k.less.bare else (d.wrote d.k.less).lock, 3, [b8 (d.k.tries - 1)])
  else if 4294967295 ≤ d.k.num + 1 then ((d.wrote d.k.less).lock, 7, [])
  else (((d.wrote d.k.less).wrote d.k.less.full).open, 0, [])
end Go.Proofs.YtaokemapkgggoaaDoor

namespace Go.Proofs.YtaokemapkgggoaaDoor
open Go.RowKit

/-- the try itself -/
theorem ret_pair {st : Int} {a b : ByteArray} (h : a = b) : Ending.returned (.tuple #[.int .i64 st, .string a]) = .returned (.tuple #[.int .i64 st, .string b]) := by rw [h]
theorem b8_str (x : Int) : strOfNums [x % 256] = str [b8 x] := rfl
theorem grown_drew {w W : World} {r : Option Nat} (h : w.grownBy W r) : w.grownBy W.drew r := ⟨h.os, h.tape, h.output, h.size, h.block⟩
theorem grown_alloc {w W : World} {r : Option Nat} (h : w.grownBy W r) (o : Obj) : w.grownBy (W.alloc o) r := h.trans (World.grownBy_alloc W o r)
theorem size_setCell (W : World) (A : Addr) (v : Value) : (W.setCell A v).heap.size = W.heap.size := by simp [World.setCell]
theorem bytes_ne {a b : ByteArray} (h : ¬ a = b) : (a.toList == b.toList) = false := by
  rw [ByteArray.toList_eq, ByteArray.toList_eq, beq_eq_false_iff_ne]
  intro e
  exact h (ByteArray.ext (Array.toList_inj.1 e))
theorem Row.grown {w w' : World} {g b : Nat} {cs : List Value} {t : TypeId} (h : Row w b cs t) (hg : w.grownBy w' (some g)) (hne : ¬ b = g) : Row w' b cs t := by
  unfold Row; rw [hg.block b h.lt (by intro e; exact hne (Option.some.inj e))]; exact h

end Go.Proofs.YtaokemapkgggoaaDoor

namespace Go.Proofs.YtaokemapkgggoaaDoor
open Go.RowKit

def Kep.key (k : Kep) (i : Nat) : ByteArray := if i = 0 then k.k0 else if i = 1 then k.k1 else if i = 2 then k.k2 else k.k3
def Kep.put (k : Kep) (i : Nat) (b : ByteArray) : Kep :=
  if i = 0 then { k with k0 := b } else if i = 1 then { k with k1 := b } else if i = 2 then { k with k2 := b } else { k with k3 := b }

/-- the first byte of a text, and the rest -/
def hd0 (p : ByteArray) : Nat := ((bytesI p.data.toList).getD 0 0).toNat
def rest1 (p : ByteArray) : ByteArray := p.extract 1 p.size

/-- what is asked of a slot -/
def Dv.slot (d : Dv) (kind : Int) (p : ByteArray) : Dv × Int × List UInt8 :=
  if d.unl = false then (d, 2, [])
  else if p.size = 0 ∨ 4 ≤ hd0 p then (d, 4, [])
  else if kind = 3 ∧ 20 < (rest1 p).size then (d, 4, [])
  else if kind = 3 ∧ 4294967295 ≤ d.k.num then (d, 7, [])
  else if kind = 3 then (d.wrote (d.k.put (hd0 p) (rest1 p)), 0, [])
  else if kind = 5 ∧ (rest1 p).size ≠ 8 then (d, 4, [])
  else if (d.k.key (hd0 p)).size = 0 then (d, 5, [])
  else if kind = 5 then (d, 0, toBytes (digL (refWord (refSeal sumSpecRef (d.k.key (hd0 p)).data.toList (rest1 p).data.toList)) 6))
  else (d, 0, toBytes (refSeal sumSpecRef (d.k.key (hd0 p)).data.toList (rest1 p).data.toList))

theorem empty_of_size {p : ByteArray} (h : p.size = 0) : p = ⟨#[]⟩ := ByteArray.ext (Array.eq_empty_of_size_eq_zero h)
theorem toList_ne_nil {p : ByteArray} (h : ¬ p.size = 0) : p.toList.isEmpty = false := by
  rw [ByteArray.toList_eq, List.isEmpty_eq_false_iff]
  intro e
  have : p.size = p.data.toList.length := by rw [Array.length_toList]; rfl
  rw [e] at this
  exact h this

theorem slot_std {d : Dv} {kind : Int} {p : ByteArray} (hu : ¬ d.unl = false) (hb : ¬ (p.size = 0 ∨ 4 ≤ hd0 p)) : d.slot kind p =
    (if kind = 3 ∧ 20 < (rest1 p).size then (d, 4, [])
    else if kind = 3 ∧ 4294967295 ≤ d.k.num then (d, 7, [])
    else if kind = 3 then (d.wrote (d.k.put (hd0 p) (rest1 p)), 0, [])
    else if kind = 5 ∧ (rest1 p).size ≠ 8 then (d, 4, [])
    else if (d.k.key (hd0 p)).size = 0 then (d, 5, [])
    else if kind = 5 then (d, 0, toBytes (digL (refWord (refSeal sumSpecRef (d.k.key (hd0 p)).data.toList (rest1 p).data.toList)) 6))
    else (d, 0, toBytes (refSeal sumSpecRef (d.k.key (hd0 p)).data.toList (rest1 p).data.toList))) := by
  rw [Dv.slot, if_neg hu, if_neg hb]

end Go.Proofs.YtaokemapkgggoaaDoor

namespace Go.Proofs.YtaokemapkgggoaaDoor
open Go.RowKit

theorem arr9b : ArrT Tryd.prog 87 9 (.int .u8 0) := ⟨⟨5, by kernel_rfl⟩, by kernel_rfl⟩
theorem arr100b : ArrT Tryd.prog 75 100 (.int .u8 0) := ⟨⟨5, by kernel_rfl⟩, by kernel_rfl⟩

set_option maxRecDepth 100000 in
set_option maxHeartbeats 1000000 in
theorem prog_pinOf_no (s : ByteArray) (w : World) (hs : s.size < 1 ∨ 8 < s.size) :
    Calls Tryd.prog 42 #[.string s] w fun r w' => r = .returned (.tuple #[.agg (zrow 9 (.int .u8 0)).toArray, .bool false]) ∧ Below w.heap.size w w' := by
  by_cases h0 : s.size = 0
  · obtain rfl := empty_of_size h0
    go_enter Tryd.func42, Tryd.ntmps42
    go_wp2_with (first | (refine wpList_allocR rfl 87 rfl 9 (.int .u8 0) arr9b ?_; go_simp) | (refine wpList_loadR rfl 87 _ rfl (w.heap.size + 1) rfl 87 (zrow 9 (.int .u8 0)) 9 (.int .u8 0) (Row.made1 _ _ _ _) arr9b (zrow_length _ _) ?_; go_simp) | (refine wpList_storeR rfl 87 _ _ rfl w.heap.size rfl (zrow 9 (.int .u8 0)) rfl 87 (zrow 9 (.int .u8 0)) 9 (.int .u8 0) ((Row.made _ _ _).alloc _) arr9b (zrow_length _ _) (zrow_length _ _) (by rw [zrow_u8]; exact u8s_one _) ?_; go_simp))
    refine bodyPost_ret (v := .tuple #[.agg (zrow 9 (.int .u8 0)).toArray, .bool false]) (results_row2 Tryd.results42 _ _ w.heap.size 87 (zrow 9 (.int .u8 0)) 9 (.int .u8 0) (.bool false) rfl rfl (Row.setRow ((Row.made _ _ _).alloc _) _) arr9b (zrow_length _ _)) rfl ⟨rfl, ?_⟩
    exact below_setRow (((Below.refl _ _).alloc (Nat.le_refl _) _).alloc (by simp) _) (Nat.le_refl _) _
  · have h8 : 9 ≤ s.size := by omega
    have hne := toList_ne_nil h0
    go_enter Tryd.func42, Tryd.ntmps42
    go_wp2_with (first | (refine wpList_allocR rfl 87 rfl 9 (.int .u8 0) arr9b ?_; go_simp) | (go_at_call 44; refine (prog_fill_no s _ _ 9 h8).mono ?_; rintro _ w9 ⟨rfl, e9⟩; rw [e9]; clear e9 w9) | (refine wpList_loadR rfl 87 _ rfl (w.heap.size + 1) rfl 87 (zrow 9 (.int .u8 0)) 9 (.int .u8 0) (Row.made1 _ _ _ _) arr9b (zrow_length _ _) ?_; go_simp) | (refine wpList_storeR rfl 87 _ _ rfl w.heap.size rfl (zrow 9 (.int .u8 0)) rfl 87 (zrow 9 (.int .u8 0)) 9 (.int .u8 0) ((Row.made _ _ _).alloc _) arr9b (zrow_length _ _) (zrow_length _ _) (by rw [zrow_u8]; exact u8s_one _) ?_; go_simp))
    refine bodyPost_ret (v := .tuple #[.agg (zrow 9 (.int .u8 0)).toArray, .bool false]) (results_row2 Tryd.results42 _ _ w.heap.size 87 (zrow 9 (.int .u8 0)) 9 (.int .u8 0) (.bool false) rfl rfl (Row.setRow ((Row.made _ _ _).alloc _) _) arr9b (zrow_length _ _)) rfl ⟨rfl, ?_⟩
    exact below_setRow (((Below.refl _ _).alloc (Nat.le_refl _) _).alloc (by simp) _) (Nat.le_refl _) _

set_option maxRecDepth 100000 in
set_option maxHeartbeats 1000000 in
theorem prog_pinOf_yes (s : ByteArray) (w : World) (h1 : 1 ≤ s.size) (h2 : s.size ≤ 8) :
    Calls Tryd.prog 42 #[.string s] w fun r w' => r = .returned (.tuple #[.agg (u8s (fieldOf 9 s.data.toList)).toArray, .bool true]) ∧ Below w.heap.size w w' := by
  obtain ⟨b, HB⟩ : ∃ b, Hid (b = fieldOf 9 s.data.toList) := ⟨_, rfl⟩
  have HL : Hid ((u8s b).length = 9) := by show _ = _; rw [HB.out, u8s_length, fieldOf_length _ _ (by omega)]
  have hne := toList_ne_nil (p := s) (by omega)
  go_enter Tryd.func42, Tryd.ntmps42
  go_wp2_with (first | (refine wpList_allocR rfl 87 rfl 9 (.int .u8 0) arr9b ?_; go_simp) | (go_at_call 44; refine (prog_fill_yes s _ (w.heap.size + 1) 9 87 (Row.made1 _ _ _ _) (by omega) (by omega) (by omega)).mono ?_; rintro _ w1 ⟨rfl, hr1, hb1⟩; rw [← HB.out] at hr1; have ho : Row w1 w.heap.size (zrow 9 (.int .u8 0)) 87 := ((Row.made w _ _).alloc _).below hb1 (Nat.lt_succ_self _); have hw : Below w.heap.size w w1 := (((Below.refl _ _).alloc (Nat.le_refl _) _).alloc (by simp) _).trans (hb1.mono (Nat.le_succ _)); clear hb1) | (refine wpList_loadR rfl 87 _ rfl (w.heap.size + 1) rfl 87 (u8s b) 9 (.int .u8 0) hr1 arr9b HL.out ?_; go_simp) | (refine wpList_storeR rfl 87 _ _ rfl w.heap.size rfl (u8s b) rfl 87 (zrow 9 (.int .u8 0)) 9 (.int .u8 0) ho arr9b HL.out (zrow_length _ _) (u8s_one _) ?_; go_simp))
  refine bodyPost_ret (v := .tuple #[.agg (u8s b).toArray, .bool true]) (results_row2 Tryd.results42 _ _ w.heap.size 87 (u8s b) 9 (.int .u8 0) (.bool true) rfl rfl (Row.setRow ho _) arr9b HL.out) rfl ⟨by rw [HB.out], ?_⟩
  exact below_setRow hw (Nat.le_refl _) _

set_option maxRecDepth 100000 in
set_option maxHeartbeats 1000000 in
theorem prog_slotOf_no (s : ByteArray) (w : World) (h : s.size = 0 ∨ 4 ≤ hd0 s) :
    Calls Tryd.prog 89 #[.string s] w fun r w' => r = .returned (.tuple #[.int .i64 0, .string ⟨#[]⟩, .bool false]) ∧ w' = w := by
  by_cases h0 : s.size = 0
  · obtain rfl := empty_of_size h0
    go_enter Tryd.func89, Tryd.ntmps89
    go_wp2
    go_ret3
    exact ⟨rfl, rfl⟩
  · have hby := byte_at (s := s) (i := 0) (by omega)
    have h4 : 4 ≤ hd0 s := by omega
    unfold hd0 at h4
    have hne := toList_ne_nil h0
    obtain ⟨b0, b1⟩ := getD_isB (bytesI_B s.data.toList) 0
    generalize (bytesI s.data.toList).getD 0 0 = x at *
    have h4' : (4 : Int) ≤ x := by omega
    have hps : (0 : Int) < s.size := by omega
    go_enter Tryd.func89, Tryd.ntmps89
    go_wp2
    go_ret3
    exact ⟨rfl, rfl⟩

set_option maxRecDepth 100000 in
set_option maxHeartbeats 1000000 in
theorem prog_slotOf_yes (s : ByteArray) (w : World) (h : ¬ (s.size = 0 ∨ 4 ≤ hd0 s)) :
    Calls Tryd.prog 89 #[.string s] w fun r w' => r = .returned (.tuple #[.int .i64 (hd0 s : Nat), .string (rest1 s), .bool true]) ∧ Below w.heap.size w w' := by
  have h0 : ¬ s.size = 0 := fun e => h (.inl e)
  have hby := byte_at (s := s) (i := 0) (by omega)
  have h4 : ¬ 4 ≤ hd0 s := fun e => h (.inr e)
  have hne := toList_ne_nil h0
  have hx : ((hd0 s : Nat) : Int) = (bytesI s.data.toList).getD 0 0 := by have := getD_isB (bytesI_B s.data.toList) 0; unfold hd0; unfold isB at this; omega
  rw [← hx] at hby
  clear hx h
  have hps : (0 : Int) < s.size := by omega
  have hps1 : (1 : Int) ≤ s.size := by omega
  have h4' : ¬ (4 : Int) ≤ (hd0 s : Nat) := by omega
  have hr1 : s.extract 1 s.size = rest1 s := rfl
  generalize hd0 s = n at *
  generalize rest1 s = q at *
  go_enter Tryd.func89, Tryd.ntmps89
  go_wp2
  go_quiet (fail)
  go_wp2
  go_ret3
  exact ⟨rfl, below_drewN (Below.refl _ _) _⟩
end Go.Proofs.YtaokemapkgggoaaDoor

namespace Go.Proofs.YtaokemapkgggoaaDoor
open Go.RowKit

/-- nine cells in the middle of a row -/
theorem row_set9 {w : World} {g : Nat} {cs : List Value} {t : TypeId} (h : Row w g cs t) (o : Nat) (a b c d e f i j k : Value) :
    Row (((((((((w.setCell ⟨g, o, none⟩ a).setCell ⟨g, o + 1, none⟩ b).setCell ⟨g, o + 2, none⟩ c).setCell ⟨g, o + 3, none⟩ d).setCell ⟨g, o + 4, none⟩ e).setCell ⟨g, o + 5, none⟩ f).setCell ⟨g, o + 6, none⟩ i).setCell ⟨g, o + 7, none⟩ j).setCell ⟨g, o + 8, none⟩ k) g
      (((((((((cs.set o a).set (o + 1) b).set (o + 2) c).set (o + 3) d).set (o + 4) e).set (o + 5) f).set (o + 6) i).set (o + 7) j).set (o + 8) k) t :=
  ((((((((h.setCell _ _).setCell _ _).setCell _ _).setCell _ _).setCell _ _).setCell _ _).setCell _ _).setCell _ _).setCell _ _

/-- the first image, ahead of its number: tries, PIN -/
def rawFirst (pf : List UInt8) : List UInt8 := [0, 0, 0, 0, 0, 5] ++ pf ++ List.replicate 85 0
theorem rawFirst_cells (p0 p1 p2 p3 p4 p5 p6 p7 p8 : UInt8) : (((((((((((zrow 100 (.int .u8 0)).set 5 (.int .u8 5)).set 6 (.int .u8 p0.toNat)).set (6 + 1) (.int .u8 p1.toNat)).set (6 + 2) (.int .u8 p2.toNat)).set (6 + 3) (.int .u8 p3.toNat)).set (6 + 4) (.int .u8 p4.toNat)).set (6 + 5) (.int .u8 p5.toNat)).set (6 + 6) (.int .u8 p6.toNat)).set (6 + 7) (.int .u8 p7.toNat)).set (6 + 8) (.int .u8 p8.toNat)) = bcells (rawFirst [p0, p1, p2, p3, p4, p5, p6, p7, p8]) := rfl
theorem below_of_grown {w W W' : World} {g : Nat} (h : Below w.heap.size w W) (hg : w.heap.size ≤ g) (hw : W.grownBy W' (some g)) : Below w.heap.size w W' :=
  h.trans ⟨hw.os, hw.tape, hw.output, hw.size, fun k hk => hw.block k (Nat.lt_of_lt_of_le hk h.size) (by intro e; have := Option.some.inj e; omega)⟩
theorem cell_of_bcells {w : World} {g : Nat} {l : List UInt8} {t : TypeId} (h : Row w g (bcells l) t) (i : Nat) (hi : i < l.length) : w.cell? ⟨g, i, none⟩ = some (.int .u8 (bAt l i)) := by
  rw [h.cell]; exact bcells_get l i hi
theorem rawFirst_length (pf : List UInt8) (h : pf.length = 9) : (rawFirst pf).length = 100 := by simp [rawFirst, h]

set_option maxRecDepth 100000 in
set_option maxHeartbeats 1000000 in
theorem prog_firstImage (w : World) (p0 p1 p2 p3 p4 p5 p6 p7 p8 : UInt8) :
    Calls Tryd.prog 43 #[.agg (bcells [p0, p1, p2, p3, p4, p5, p6, p7, p8]).toArray] w fun r w' => r = .returned (.agg (bcells ((turned (rawFirst [p0, p1, p2, p3, p4, p5, p6, p7, p8])).set 0 167)).toArray) ∧ Below w.heap.size w w' := by
  obtain ⟨tl, HTL⟩ : ∃ tl, Hid (tl = turned (rawFirst [p0, p1, p2, p3, p4, p5, p6, p7, p8])) := ⟨_, rfl⟩
  have HLL : Hid (tl.length = 100) := by show _ = _; rw [HTL.out]; exact turned_length _ (rawFirst_length _ rfl)
  rw [← HTL.out]
  go_enter Tryd.func43, Tryd.ntmps43
  go_wp2_with (first | (refine wpList_boxR rfl 87 _ rfl (bcells [p0, p1, p2, p3, p4, p5, p6, p7, p8]) rfl ?_; go_simp) | (refine wpList_allocR rfl 75 rfl 100 (.int .u8 0) arr100b ?_; go_simp))
  have r1 : Row (((w.alloc (.cells (bcells [p0, p1, p2, p3, p4, p5, p6, p7, p8]).toArray 87)).alloc (.cells (zrow 100 (.int .u8 0)).toArray 75)).alloc (.cells ((zrow 100 (.int .u8 0)).set 5 (.int .u8 5)).toArray 75)) w.heap.size (bcells [p0, p1, p2, p3, p4, p5, p6, p7, p8]) 87 := ((Row.made _ _ _).alloc _).alloc _
  have r2 : Row (((w.alloc (.cells (bcells [p0, p1, p2, p3, p4, p5, p6, p7, p8]).toArray 87)).alloc (.cells (zrow 100 (.int .u8 0)).toArray 75)).alloc (.cells ((zrow 100 (.int .u8 0)).set 5 (.int .u8 5)).toArray 75)) (w.heap.size + 1) (zrow 100 (.int .u8 0)) 75 := (Row.made1 _ _ _ _).alloc _
  have r3 : Row (((w.alloc (.cells (bcells [p0, p1, p2, p3, p4, p5, p6, p7, p8]).toArray 87)).alloc (.cells (zrow 100 (.int .u8 0)).toArray 75)).alloc (.cells ((zrow 100 (.int .u8 0)).set 5 (.int .u8 5)).toArray 75)) (w.heap.size + 1 + 1) ((zrow 100 (.int .u8 0)).set 5 (.int .u8 5)) 75 := by
    have := Row.made1 (w.alloc (.cells (bcells [p0, p1, p2, p3, p4, p5, p6, p7, p8]).toArray 87)) (.cells (zrow 100 (.int .u8 0)).toArray 75) ((zrow 100 (.int .u8 0)).set 5 (.int .u8 5)) 75
    rwa [World.size_alloc] at this
  have hB : Below w.heap.size w (((w.alloc (.cells (bcells [p0, p1, p2, p3, p4, p5, p6, p7, p8]).toArray 87)).alloc (.cells (zrow 100 (.int .u8 0)).toArray 75)).alloc (.cells ((zrow 100 (.int .u8 0)).set 5 (.int .u8 5)).toArray 75)) := (((Below.refl _ _).alloc (Nat.le_refl _) _).alloc (by simp) _).alloc (by simp; omega) _
  generalize ((w.alloc (.cells (bcells [p0, p1, p2, p3, p4, p5, p6, p7, p8]).toArray 87)).alloc (.cells (zrow 100 (.int .u8 0)).toArray 75)).alloc (.cells ((zrow 100 (.int .u8 0)).set 5 (.int .u8 5)).toArray 75) = wz at *
  have a0 : wz.cell? ⟨w.heap.size, 0, none⟩ = some (.int .u8 p0.toNat) := r1.cell
  have a1 : wz.cell? ⟨w.heap.size, 1, none⟩ = some (.int .u8 p1.toNat) := r1.cell
  have a2 : wz.cell? ⟨w.heap.size, 2, none⟩ = some (.int .u8 p2.toNat) := r1.cell
  have a3 : wz.cell? ⟨w.heap.size, 3, none⟩ = some (.int .u8 p3.toNat) := r1.cell
  have a4 : wz.cell? ⟨w.heap.size, 4, none⟩ = some (.int .u8 p4.toNat) := r1.cell
  have a5 : wz.cell? ⟨w.heap.size, 5, none⟩ = some (.int .u8 p5.toNat) := r1.cell
  have a6 : wz.cell? ⟨w.heap.size, 6, none⟩ = some (.int .u8 p6.toNat) := r1.cell
  have a7 : wz.cell? ⟨w.heap.size, 7, none⟩ = some (.int .u8 p7.toNat) := r1.cell
  have a8 : wz.cell? ⟨w.heap.size, 8, none⟩ = some (.int .u8 p8.toNat) := r1.cell
  have z0 : wz.cell? ⟨w.heap.size + 1 + 1, 6, none⟩ = some (.int .u8 0) := r3.cell
  have z1 : wz.cell? ⟨w.heap.size + 1 + 1, 7, none⟩ = some (.int .u8 0) := r3.cell
  have z2 : wz.cell? ⟨w.heap.size + 1 + 1, 8, none⟩ = some (.int .u8 0) := r3.cell
  have z3 : wz.cell? ⟨w.heap.size + 1 + 1, 9, none⟩ = some (.int .u8 0) := r3.cell
  have z4 : wz.cell? ⟨w.heap.size + 1 + 1, 10, none⟩ = some (.int .u8 0) := r3.cell
  have z5 : wz.cell? ⟨w.heap.size + 1 + 1, 11, none⟩ = some (.int .u8 0) := r3.cell
  have z6 : wz.cell? ⟨w.heap.size + 1 + 1, 12, none⟩ = some (.int .u8 0) := r3.cell
  have z7 : wz.cell? ⟨w.heap.size + 1 + 1, 13, none⟩ = some (.int .u8 0) := r3.cell
  have z8 : wz.cell? ⟨w.heap.size + 1 + 1, 14, none⟩ = some (.int .u8 0) := r3.cell
  have fz := r3.frozen
  have hne : ¬ w.heap.size = w.heap.size + 1 + 1 := by omega
  go_region_with (first | (go_at_call 59; refine (prog_pin _ (w.heap.size + 1 + 1) 0).mono ?_; rintro _ w9 ⟨rfl, e9⟩; rw [e9]; clear e9 w9))
  all_goals
    clear a0 a1 a2 a3 a4 a5 a6 a7 a8 z0 z1 z2 z3 z4 z5 z6 z7 z8 fz
    have r4 := (row_set9 r3 6 (.int .u8 p0.toNat) (.int .u8 p1.toNat) (.int .u8 p2.toNat) (.int .u8 p3.toNat) (.int .u8 p4.toNat) (.int .u8 p5.toNat) (.int .u8 p6.toNat) (.int .u8 p7.toNat) (.int .u8 p8.toNat)).drew
    rw [rawFirst_cells] at r4
    have hg4 : wz.grownBy (((((((((wz.setCell ⟨w.heap.size + 1 + 1, 6, none⟩ (.int .u8 p0.toNat)).setCell ⟨w.heap.size + 1 + 1, 7, none⟩ (.int .u8 p1.toNat)).setCell ⟨w.heap.size + 1 + 1, 8, none⟩ (.int .u8 p2.toNat)).setCell ⟨w.heap.size + 1 + 1, 9, none⟩ (.int .u8 p3.toNat)).setCell ⟨w.heap.size + 1 + 1, 10, none⟩ (.int .u8 p4.toNat)).setCell ⟨w.heap.size + 1 + 1, 11, none⟩ (.int .u8 p5.toNat)).setCell ⟨w.heap.size + 1 + 1, 12, none⟩ (.int .u8 p6.toNat)).setCell ⟨w.heap.size + 1 + 1, 13, none⟩ (.int .u8 p7.toNat)).setCell ⟨w.heap.size + 1 + 1, 14, none⟩ (.int .u8 p8.toNat)).drew (some (w.heap.size + 1 + 1)) := grown_drew (grown_set (grown_set (grown_set (grown_set (grown_set (grown_set (grown_set (grown_set (grown_set (World.grownBy.refl _ _) 6 _) 7 _) 8 _) 9 _) 10 _) 11 _) 12 _) 13 _) 14 _)
    generalize (((((((((wz.setCell ⟨w.heap.size + 1 + 1, 6, none⟩ (.int .u8 p0.toNat)).setCell ⟨w.heap.size + 1 + 1, 7, none⟩ (.int .u8 p1.toNat)).setCell ⟨w.heap.size + 1 + 1, 8, none⟩ (.int .u8 p2.toNat)).setCell ⟨w.heap.size + 1 + 1, 9, none⟩ (.int .u8 p3.toNat)).setCell ⟨w.heap.size + 1 + 1, 10, none⟩ (.int .u8 p4.toNat)).setCell ⟨w.heap.size + 1 + 1, 11, none⟩ (.int .u8 p5.toNat)).setCell ⟨w.heap.size + 1 + 1, 12, none⟩ (.int .u8 p6.toNat)).setCell ⟨w.heap.size + 1 + 1, 13, none⟩ (.int .u8 p7.toNat)).setCell ⟨w.heap.size + 1 + 1, 14, none⟩ (.int .u8 p8.toNat)).drew = w4 at *
    have hB4 : Below w.heap.size w w4 := below_of_grown hB (by omega) hg4
    have r2' : Row w4 (w.heap.size + 1) (zrow 100 (.int .u8 0)) 75 := Row.grown r2 hg4 (by omega)
    clear r1 r2 r3 hg4 hB
    have hz1 : w.heap.size ≤ w.heap.size + 1 := by omega
    have hz2 : w.heap.size ≤ w.heap.size + 1 + 1 := by omega
    have hzn : ¬ w.heap.size + 1 = w.heap.size + 1 + 1 := by omega
    go_wp2_with (first | (go_at_call 60; refine (prog_turnNumber _ (w.heap.size + 1 + 1) _ r4 (rawFirst_length _ rfl)).mono ?_; rintro _ w5 ⟨rfl, r5, hg5⟩; rw [← HTL.out] at r5; have r6 : Row w5 (w.heap.size + 1) (zrow 100 (.int .u8 0)) 75 := Row.grown r2' hg5 hzn; have hB5 := below_of_grown hB4 hz2 hg5; clear hg5 r2' r4 hB4; have c0 := cell_of_bcells r5 0 (by rw [HLL.out]; omega); have f0 := r5.frozen 0) | (refine wpList_loadR rfl 75 _ rfl (w.heap.size + 1 + 1) rfl 75 (bcells (tl.set 0 167)) 100 (.int .u8 0) (by have := r5.setCell 0 (.int .u8 167); rwa [bcells_set _ _ _ (by omega) (by omega)] at this) arr100b (by rw [bcells_length, List.length_set, HLL.out]) ?_; go_simp) | (refine wpList_storeR rfl 75 _ _ rfl (w.heap.size + 1) rfl (bcells (tl.set 0 167)) rfl 75 (zrow 100 (.int .u8 0)) 100 (.int .u8 0) (Row.setCell_other r6 _ _ hzn) arr100b (by rw [bcells_length, List.length_set, HLL.out]) (zrow_length _ _) (bcells_one _) ?_; go_simp))
    exact bodyPost_ret (v := .agg (bcells (tl.set 0 167)).toArray) (results_row Tryd.results43 _ (w.heap.size + 1) 75 (bcells (tl.set 0 167)) 100 (.int .u8 0) rfl (Row.setRow (Row.setCell_other r6 _ _ hzn) _) arr100b (by rw [bcells_length, List.length_set, HLL.out])) rfl ⟨rfl, below_setRow (hB5.setCell hz2 _) hz1 _⟩
end Go.Proofs.YtaokemapkgggoaaDoor

namespace Go.Proofs.YtaokemapkgggoaaDoor
open Go.RowKit

/-- is a field right: no longer than it has room, and bytes 0 behind it? -/
def restZero (l : List UInt8) (m : Nat) : Prop := ∀ i, m ≤ i → i < l.length → bAt l i = 0

set_option maxRecDepth 100000 in
set_option maxHeartbeats 1000000 in
/-- a field whose length is m, with bytes 0 behind it -/
theorem prog_rightField_yes (w : World) (g o n m : Nat) (l : List UInt8) (hR : w.rangeAt g o (bcells l)) (hl : l.length = n) (hn : n ≤ 100) (h0 : bAt l 0 = m) (hm : m < n) (hz : restZero l (1 + m)) :
    Calls Tryd.prog 69 #[.slice (some ⟨g, o, none⟩) n n] w fun r w' => r = .returned (.bool true) ∧ w' = w := by
  have c0 := range_byte hR 0 (by omega)
  rw [h0, Nat.add_zero] at c0
  have HL : Hid (l.length = n) := hl
  clear hl h0
  have HZ : Hid (restZero l (1 + m)) := hz
  clear hz
  have e1 : ¬ (n : Int) ≤ m := by omega
  have e2 : IntKind.i64.wrap (1 + (m : Int)) = 1 + (m : Int) := wrap_id _ (by omega) (by omega)
  have e3 : (1 + (m : Int)).toNat = 1 + m := by omega
  have e4 : (1 + (m : Int)) ≤ n := by omega
  have e5 : (0 : Int) ≤ 1 + (m : Int) := by omega
  by_cases hend : 1 + m = n
  · subst hend
    go_enter Tryd.func69, Tryd.ntmps69
    go_wp2
    go_loopw [19] (fun c wr => c = .int .i64 0 ∧ wr = w) (fun _ _ => 0)
    case atStart => exact ⟨rfl, rfl⟩
    case round =>
      obtain ⟨rfl, rfl⟩ := hrel
      go_wp2
      go_ret
      exact ⟨rfl, rfl⟩
  · have hend' : ¬ n = 1 + m := fun e => hend e.symm
    go_enter Tryd.func69, Tryd.ntmps69
    go_wp2
    go_loopw [19] (fun c wr => ∃ i : Nat, i ≤ n - (1 + m) ∧ c = .int .i64 i ∧ wr = w) (fun c _ => n - (1 + m) - (intOf c).toNat)
    case atStart => exact ⟨0, by omega, rfl, rfl⟩
    case round =>
      obtain ⟨i, hi, rfl, rfl⟩ := hrel
      by_cases hlt : i < n - (1 + m)
      · have hc := range_byte hR (1 + m + i) (by rw [HL.out]; omega)
        rw [HZ.out (1 + m + i) (by omega) (by rw [HL.out]; omega), ← Nat.add_assoc] at hc
        have hlt' : (i : Int) < ((n - (1 + m) : Nat) : Int) := by omega
        have hi0 : (0 : Int) ≤ i := by omega
        go_wp2
        exact ⟨⟨i + 1, by omega, by go_num, trivial⟩, by simp [intOf]; omega⟩
      · have hlt' : ¬ (i : Int) < ((n - (1 + m) : Nat) : Int) := by omega
        go_wp2
        go_ret
        exact ⟨rfl, rfl⟩

/-- the field of n cells from place a on -/
def fieldAt (l : List UInt8) (a n : Nat) : List UInt8 := (l.drop a).take n
theorem fieldAt_length (l : List UInt8) (a n : Nat) (h : a + n ≤ l.length) : (fieldAt l a n).length = n := by simp [fieldAt]; omega
/-- a right image -/
structure RightL (l : List UInt8) : Prop where
  len : l.length = 100
  mark : bAt l 0 = 167
  num : ¬ numOf l = 0
  tries : bAt l 5 ≤ 5
  pin0 : ¬ bAt l 6 = 0
  pin : ∃ m : Nat, bAt (fieldAt l 6 9) 0 = m ∧ m < 9 ∧ restZero (fieldAt l 6 9) (1 + m)
  keys : ∀ i, i < 4 → ∃ m : Nat, bAt (fieldAt l (15 + 21 * i) 21) 0 = m ∧ m < 21 ∧ restZero (fieldAt l (15 + 21 * i) 21) (1 + m)
  sum : bAt l 99 = chkOf l

set_option maxRecDepth 100000 in
set_option maxHeartbeats 1000000 in
theorem prog_rightKeys (w : World) (g o : Nat) (l : List UInt8) (h : ImgAt w g o l) (hk : ∀ i, i < 4 → ∃ m : Nat, bAt (fieldAt l (15 + 21 * i) 21) 0 = m ∧ m < 21 ∧ restZero (fieldAt l (15 + 21 * i) 21) (1 + m)) :
    Calls Tryd.prog 70 #[.pointer (some ⟨g, o, none⟩)] w fun r w' => r = .returned (.bool true) ∧ w' = w := by
  have HK : Hid _ := hk
  clear hk
  go_enter Tryd.func70, Tryd.ntmps70
  go_wp2
  go_loopw [4] (fun c wr => ∃ i : Nat, i ≤ 4 ∧ c = .int .i64 i ∧ wr = w) (fun c _ => 4 - (intOf c).toNat)
  case atStart => exact ⟨0, by omega, rfl, rfl⟩
  case round =>
    obtain ⟨i, hi, rfl, hw⟩ := hrel
    rw [hw]
    clear hw
    by_cases hlt : i < 4
    · have hlt' : (i : Int) < 4 := by omega
      obtain ⟨m, hm0, hm1, hm2⟩ := HK.out i hlt
      have hcall := prog_rightField_yes w g (o + (15 + 21 * i)) 21 m _ (range_sub h.at_ (15 + 21 * i) 21) (fieldAt_length l _ 21 (by rw [h.len]; omega)) (by omega) hm0 hm1 hm2
      clear hm0 hm2
      go_wp2_with (first | (go_at_call 77; refine (prog_key w g o i hlt).mono ?_; rintro _ w9 ⟨rfl, e9⟩; rw [e9]; clear e9 w9) | (go_at_call 69; refine hcall.mono ?_; rintro _ w9 ⟨rfl, e9⟩; rw [e9]; clear e9 w9))
      exact ⟨⟨i + 1, by omega, by go_num, trivial⟩, by simp [intOf]; omega⟩
    · have hlt' : ¬ (i : Int) < 4 := by omega
      go_wp2
      go_ret
      exact ⟨rfl, rfl⟩

theorem ImgAt.drewN {w : World} {g o : Nat} {l : List UInt8} (h : ImgAt w g o l) (n : Nat) : ImgAt (w.drewN n) g o l := ⟨h.len, h.at_⟩

set_option maxRecDepth 100000 in
set_option maxHeartbeats 2000000 in
theorem prog_right_yes (w : World) (g o : Nat) (l : List UInt8) (h : ImgAt w g o l) (hr : RightL l) :
    Calls Tryd.prog 57 #[.pointer (some ⟨g, o, none⟩)] w fun r w' => r = .returned (.bool true) ∧ ∃ n, w' = w.drewN n := by
  have c0 := h.b 0 (by omega)
  have c5 := h.b 5 (by omega)
  have c6 := h.b 6 (by omega)
  have c99 := h.b 99 (by omega)
  rw [hr.mark, Nat.add_zero] at c0
  rw [hr.sum] at c99
  have t5 := hr.tries
  have p6 := hr.pin0
  obtain ⟨b50, b51⟩ := bAt_B l 5
  obtain ⟨b60, b61⟩ := bAt_B l 6
  have nz := hr.num
  obtain ⟨m, hm0', hm1, hm2'⟩ := hr.pin
  have hm0 : Hid _ := hm0'
  have hm2 : Hid _ := hm2'
  clear hm0' hm2'
  generalize bAt l 5 = x5 at *
  generalize bAt l 6 = x6 at *
  go_enter Tryd.func57, Tryd.ntmps57
  go_wp2
  go_quiet (first | (go_at_call 58; exact Calls.quiet_of (prog_number _ g o l (h.drewN _))) | (go_at_call 59; exact Calls.quiet_of_same (prog_pin _ g o)) | (go_at_call 69; exact Calls.quiet_of_same (prog_rightField_yes _ g (o + 6) 9 m _ (range_sub (h.drewN _).at_ 6 9) (fieldAt_length l _ 9 (by rw [h.len]; omega)) (by omega) hm0.out hm1 hm2.out)) | (go_at_call 70; exact Calls.quiet_of_same (prog_rightKeys _ g o l (h.drewN _) hr.keys)) | (go_at_call 71; exact Calls.quiet_of_same (prog_check _ g o l (h.drewN _))))
  go_wp2
  go_ret
  exact ⟨ret_bool (by simp [nz, p6]), _, rfl⟩

set_option maxRecDepth 100000 in
set_option maxHeartbeats 2000000 in
theorem prog_right_no (w : World) (g o : Nat) (l : List UInt8) (h : ImgAt w g o l) (hr : ¬ bAt l 0 = 167) :
    Calls Tryd.prog 57 #[.pointer (some ⟨g, o, none⟩)] w fun r w' => r = .returned (.bool false) ∧ ∃ n, w' = w.drewN n := by
  have c0 := h.b 0 (by omega)
  rw [Nat.add_zero] at c0
  generalize bAt l 0 = x0 at *
  go_enter Tryd.func57, Tryd.ntmps57
  go_wp2
  go_quiet (fail)
  go_wp2
  go_ret
  exact ⟨rfl, _, rfl⟩
end Go.Proofs.YtaokemapkgggoaaDoor
