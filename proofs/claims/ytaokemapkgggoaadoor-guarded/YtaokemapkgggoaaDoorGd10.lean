import Derived.Test.YtaokemapkgggoaaDoorGd09
import Derived.Deep.RegionWith
import Derived.OwnWalk
namespace Go.Proofs.YtaokemapkgggoaaDoor
open Go.RowKit

def Kep.next (k : Kep) (n : Int) : Kep := { k with num := n }
/-- the device behind a write that was not cut off -/
def Dv.wrote (d : Dv) (k : Kep) : Dv :=
  { d with h0 := if d.wh = 0 then d.h0 else str (k.next (d.k.num + 1)).img, h1 := if d.wh = 0 then str (k.next (d.k.num + 1)).img else d.h1, k := k.next (d.k.num + 1), wh := 1 - d.wh, cut := if d.cut < 0 then d.cut else d.cut - 101 }

def isStruct : Option TypeDesc → Bool
  | some (.struct _) => true
  | _ => false
theorem struct_is {u : Option TypeDesc} (h : isStruct u = true) : ∃ fs, u = some (.struct fs) := by
  unfold isStruct at h
  split at h
  · exact ⟨_, rfl⟩
  · cases h
theorem Row.setCells {g : Nat} {t : TypeId} : ∀ (vs : List Value) (o : Nat) {w : World} {cs : List Value}, Row w g cs t → o + vs.length ≤ cs.length → Row (w.setCells g o vs) g (splice cs o vs) t
  | [], o, w, cs, h, _ => by simpa [World.setCells, splice] using h
  | v :: r, o, w, cs, h, hl => by
    have hl' : o + (r.length + 1) ≤ cs.length := hl
    have := Row.setCells r (o + 1) (h.setCell o v) (by rw [List.length_set]; omega)
    rw [World.setCells]
    have e : splice (cs.set o v) (o + 1) r = splice cs o (v :: r) := by
      unfold splice
      rw [List.take_succ_eq_append_getElem (by rw [List.length_set]; omega), List.getElem_set_self, List.take_set_of_le (Nat.le_refl _), List.append_assoc, List.singleton_append]
      congr 2
      rw [List.length_cons, show o + 1 + r.length = o + (r.length + 1) by omega, List.drop_set_of_lt (by omega)]
      rfl
    rwa [e] at this
theorem grown_setCells {w : World} {g : Nat} : ∀ (vs : List Value) (o : Nat) {W : World}, w.grownBy W (some g) → w.grownBy (W.setCells g o vs) (some g)
  | [], _, _, h => h
  | v :: r, o, W, h => by rw [World.setCells]; exact grown_setCells r (o + 1) (h.trans (Lib.grownBy_setCell W g o v))
theorem grown_set {w W : World} {g : Nat} (h : w.grownBy W (some g)) (o : Nat) (v : Value) : w.grownBy (W.setCell ⟨g, o, none⟩ v) (some g) := h.trans (Lib.grownBy_setCell W g o v)
theorem grown_of_below {w W : World} (r : Option Nat) (hb : Below w.heap.size w W) : w.grownBy W r := ⟨hb.os, hb.tape, hb.output, hb.size, fun k hk _ => hb.block k hk⟩
theorem grown_below {w W W' : World} {r : Option Nat} (h : w.grownBy W r) (hb : Below W.heap.size W W') : w.grownBy W' r := h.trans (grown_of_below r hb)
theorem Row.thereFrom {w : World} {g : Nat} {cs : List Value} {t : TypeId} (h : Row w g cs t) (o n : Nat) (hn : o + n ≤ cs.length) : w.there g o n := fun j hj =>
  ⟨by rw [h.cell, List.getElem?_eq_getElem (by omega)]; rfl, h.frozen _⟩
end Go.Proofs.YtaokemapkgggoaaDoor

namespace Go.Proofs.YtaokemapkgggoaaDoor
open Go.RowKit

theorem grown_setRow {w W : World} {g : Nat} (h : w.grownBy W (some g)) (cs : Array Value) : w.grownBy (W.setRow g cs) (some g) :=
  h.trans ⟨rfl, rfl, rfl, by simp [World.setRow], fun k _ hk => Go.setRow_other W g k cs (fun e => hk (by rw [e]))⟩
theorem grown_drew' {w W : World} {r : Option Nat} (h : w.grownBy W r) : w.grownBy W.drew r := ⟨h.os, h.tape, h.output, h.size, h.block⟩
theorem ImgAt.of_row {w : World} {g : Nat} {l : List UInt8} {t : TypeId} (h : Row w g (bcells l) t) (hl : l.length = 100) : ImgAt w g 0 l := ⟨hl, h.range⟩
theorem splice_u8 (l : List UInt8) (o : Nat) (m : List UInt8) : splice (bcells l) o (bcells m) = bcells (l.take o ++ m ++ l.drop (o + m.length)) := by
  unfold splice
  rw [bcells_length]
  simp [bcells, List.map_take, List.map_drop]
def withNum (l : List UInt8) (x : Int) : List UInt8 := l.take 1 ++ toBytes (four x) ++ l.drop 5
theorem withNum_length (l : List UInt8) (x : Int) (h : l.length = 100) : (withNum l x).length = 100 := by simp [withNum, toBytes_length, four]; omega
/-- the image with the next number, and its check -/
def turned (l : List UInt8) : List UInt8 := (withNum l ((numOf l + 1) % 4294967296)).set 99 (b8 (chkOf (withNum l ((numOf l + 1) % 4294967296))))
theorem turned_length (l : List UInt8) (h : l.length = 100) : (turned l).length = 100 := by rw [turned, List.length_set, withNum_length l _ h]
theorem chkOf_B (l : List UInt8) : 0 ≤ chkOf l ∧ chkOf l < 256 := by unfold chkOf; omega
theorem bcells_set (l : List UInt8) (i : Nat) (x : Int) (h0 : 0 ≤ x) (h1 : x < 256) : (bcells l).set i (.int .u8 x) = bcells (l.set i (b8 x)) := by
  have e : ((b8 x).toNat : Int) = x := by rw [b8_toNat]; omega
  simp only [bcells, List.map_set, e]
theorem four_cells (x : Int) (h : isW x) : u8s (four x) = bcells (toBytes (four x)) := by
  rw [bcells_eq, bytesI_toBytes (four_B h)]

set_option maxRecDepth 100000 in
set_option maxHeartbeats 1000000 in
theorem prog_turnNumber (w : World) (g : Nat) (l : List UInt8) (hR : Row w g (bcells l) 75) (hl : l.length = 100) :
    Calls Tryd.prog 60 #[.pointer (some ⟨g, 0, none⟩)] w fun r w' => r = .returned (.tuple #[]) ∧ Row w' g (bcells (turned l)) 75 ∧ w.grownBy w' (some g) := by
  have HL : Hid (l.length = 100) := hl
  clear hl
  have I0 : Hid (ImgAt w g 0 l) := ImgAt.of_row hR HL.out
  obtain ⟨nx, HNX⟩ : ∃ nx, Hid (nx = (numOf l + 1) % 4294967296) := ⟨_, rfl⟩
  have hnx : isW nx := by rw [HNX.out]; unfold isW; omega
  have hnw := numOf_w l
  obtain ⟨hnw0, hnw1⟩ := hnw
  obtain ⟨fx, HFX⟩ : ∃ fx, Hid (fx = u8s (four nx)) := ⟨_, rfl⟩
  have HFL : Hid (fx.length = 4) := by show _ = _; rw [HFX.out]; rfl
  have HFO : ∀ v ∈ fx, v.oneCell' = true := by rw [HFX.out]; exact u8s_one _
  obtain ⟨m, HM⟩ : ∃ m, Hid (m = withNum l nx) := ⟨_, rfl⟩
  have hml : Hid (m.length = 100) := by show _ = _; rw [HM.out]; exact withNum_length l nx HL.out
  have HSP : Hid (splice (bcells l) 1 fx = bcells m) := by
    show _ = _
    rw [HFX.out, four_cells nx hnx, splice_u8, HM.out]
    rfl
  have hsl := fun wx => run_sliceArr2 (P := Tryd.prog) wx 75 5 100 under_img size_byte g 0 1 5 (by omega) (by omega) (by omega) 1 5 rfl rfl
  obtain ⟨nn, HNN⟩ : ∃ nn, Hid (nn = numOf l) := ⟨_, rfl⟩
  rw [← HNN.out] at hnw0 hnw1
  have hgl : g < w.heap.size := hR.lt
  go_enter Tryd.func60, Tryd.ntmps60
  go_wp2_with (first | (go_at_call 58; refine (prog_number w g 0 l I0.out).mono ?_; rintro _ w0 ⟨rfl, n0, e0⟩; rw [← HNN.out]; have hR0 : Row w0 g (bcells l) 75 := (by rw [e0]; exact hR); have hg0 : w.grownBy w0 (some g) := (by rw [e0]; exact grown_of_below _ (below_drewN (Below.refl _ _) _)); clear e0) | (go_at_call 63; rw [show (nn + 1) % 4294967296 = nx by rw [HNN.out, HNX.out]]; refine (prog_fourBytes nx _ hnx).mono ?_; rintro _ w1 ⟨rfl, hb1⟩; rw [← HFX.out]; have hR1 : Row w1 g (bcells l) 75 := hR0.below hb1 hR0.lt; have hg1 : w.grownBy w1 (some g) := grown_below hg0 hb1; clear hb1 hg0 hR0) | (refine wpList_allocR rfl 118 rfl 4 (.int .u8 0) arr4b ?_; go_simp) | (refine wpList_storeMA rfl 118 _ _ rfl _ rfl rfl fx rfl 118 _ 4 (.int .u8 0) arr4b HFL.out (zrow_length _ _) HFO ?_; intro w3 hr5 hb3; have hR3 : Row w3 g (bcells l) 75 := hR1.below hb3 hR1.lt; have hg3 : w.grownBy w3 (some g) := grown_below hg1 hb3; have hne3 : ¬ g = w1.heap.size := (by have := hR1.lt; omega); clear hR1 hg1 hb3; go_simp))
  have hcp : (Builtin.copy_ #[28, 28] 3 #[.slice (some ⟨g, 1, none⟩) 4 99, .slice (some ⟨w1.heap.size, 0, none⟩) 4 4]).run Tryd.prog w3.drew = .ok (.int .i64 4) (w3.drew.setRow g (bcells m).toArray) := by
    have hr := run_copy_row (P := Tryd.prog) w3.drew 28 28 3 5 g 1 4 99 ⟨w1.heap.size, 0, none⟩ 4 4 (bcells l).toArray 75 fx under_bytes size_byte hR3 (by rw [HFL.out]; rfl) (row_src (show Row w3.drew _ _ _ from hr5)) (by rw [HFL.out, List.size_toArray, bcells_length, HL.out]; omega) HFO
    rw [HFL.out, List.toList_toArray] at hr
    have e := HSP.out
    unfold splice at e
    rw [HFL.out] at e
    rw [← e, hr]
    simp [goInt]
  have hR4 : Row (w3.drew.setRow g (bcells m).toArray) g (bcells m) 75 := Row.setRow hR3.drew _
  have hg4 : w.grownBy (w3.drew.setRow g (bcells m).toArray) (some g) := grown_setRow (grown_drew' hg3) _
  clear hr5 hR3 hg3 HSP
  go_region
  clear hcp
  generalize w3.drew.setRow g (bcells m).toArray = w4 at *
  have I4 : Hid (ImgAt w4.drew g 0 m) := ImgAt.of_row hR4.drew hml.out
  have c99 := I4.out.b 99 (by omega)
  rw [Nat.zero_add] at c99
  have f99 := hR4.frozen 99
  obtain ⟨cb0, cb1⟩ := chkOf_B m
  have HT : Hid ((bcells m).set 99 (.int .u8 (chkOf m)) = bcells (turned l)) := by
    show _ = _
    rw [bcells_set m 99 _ cb0 cb1, turned, ← HNX.out, ← HM.out]
  go_wp2
  go_region_with (first | (go_at_call 71; refine (prog_check _ g 0 m I4.out).mono ?_; rintro _ w9 ⟨rfl, e9⟩; rw [e9]; clear e9 w9))
  go_wp2
  go_end0
  have hfin := (hR4.drew).setCell 99 (.int .u8 (chkOf m))
  rw [HT.out] at hfin
  exact ⟨rfl, hfin, grown_set (grown_drew' hg4) 99 _⟩
end Go.Proofs.YtaokemapkgggoaaDoor

namespace Go.Proofs.YtaokemapkgggoaaDoor
open Go.RowKit

section
variable {P : Program} {ops : Array Oper} {rest : List Oper} {o : Oper} {a : Act} {K : Act → World → Prop} {Q : Exit → Act → World → Prop}
end

/-- what stands in a device that was made by New, and its power never cut -/
structure Dv.ok (d : Dv) : Prop where
  n0 : 1 ≤ d.k.num
  n1 : d.k.num ≤ 4294967295
  t0 : 0 ≤ d.k.tries
  t1 : d.k.tries ≤ 5
  p0 : 1 ≤ d.k.pin.size
  p1 : d.k.pin.size ≤ 8
  k0 : d.k.k0.size ≤ 20
  k1 : d.k.k1.size ≤ 20
  k2 : d.k.k2.size ≤ 20
  k3 : d.k.k3.size ≤ 20
  wh : d.wh = 0 ∨ d.wh = 1
  off : d.off = false
  cut : d.cut < 0
theorem Dv.ok.fair {d : Dv} (h : d.ok) : d.k.fair := ⟨by have := h.n0; omega, by have := h.n1; omega, by have := h.t0; omega, by have := h.t1; omega, by have := h.p1; omega, by have := h.k0; omega, by have := h.k1; omega, by have := h.k2; omega, by have := h.k3; omega⟩

def Kep.less (k : Kep) : Kep := { k with tries := k.tries - 1 }
def Kep.full (k : Kep) : Kep := { k with tries := 5 }
def Kep.bare (k : Kep) : Kep := { k with k0 := ⟨#[]⟩, k1 := ⟨#[]⟩, k2 := ⟨#[]⟩, k3 := ⟨#[]⟩ }
def Dv.lock (d : Dv) : Dv := { d with unl := false }
def Dv.open (d : Dv) : Dv := { d with unl := true }
/-- a PIN is tried -/
def Dv.unlock (d : Dv) (p : ByteArray) : Dv × Int × List UInt8 :=
  if p.size < 1 ∨ 8 < p.size then (d, 4, [])
  else if d.k.tries = 0 then (d, 5, [])
  else if 4294967295 ≤ d.k.num then (d, 7, [])
  else if p ≠ d.k.pin then
    (if d.k.tries - 1 = 0 ∧ ¬ 4294967295 ≤ d.k.num + 1 then (d.wrote d.k.less).lock.wrote d.k.less.bare else (d.wrote d.k.less).lock, 3, [b8 (d.k.tries - 1)])
  else if 4294967295 ≤ d.k.num + 1 then ((d.wrote d.k.less).lock, 7, [])
  else (((d.wrote d.k.less).wrote d.k.less.full).open, 0, [])
end Go.Proofs.YtaokemapkgggoaaDoor

namespace Go.Proofs.YtaokemapkgggoaaDoor
open Go.RowKit

theorem grown_drew {w W : World} {r : Option Nat} (h : w.grownBy W r) : w.grownBy W.drew r := ⟨h.os, h.tape, h.output, h.size, h.block⟩
theorem grown_alloc {w W : World} {r : Option Nat} (h : w.grownBy W r) (o : Obj) : w.grownBy (W.alloc o) r := h.trans (World.grownBy_alloc W o r)
theorem size_setCell (W : World) (A : Addr) (v : Value) : (W.setCell A v).heap.size = W.heap.size := by simp [World.setCell]
theorem bytes_ne {a b : ByteArray} (h : ¬ a = b) : (a.toList == b.toList) = false := by
  rw [ByteArray.toList_eq, ByteArray.toList_eq, beq_eq_false_iff_ne]
  intro e
  exact h (ByteArray.ext (Array.toList_inj.1 e))
theorem Row.grown {w w' : World} {g b : Nat} {cs : List Value} {t : TypeId} (h : Row w b cs t) (hg : w.grownBy w' (some g)) (hne : ¬ b = g) : Row w' b cs t := by
  unfold Row; rw [hg.block b h.lt (by intro e; exact hne (Option.some.inj e))]; exact h

end Go.Proofs.YtaokemapkgggoaaDoor

namespace Go.Proofs.YtaokemapkgggoaaDoor
open Go.RowKit

def Kep.key (k : Kep) (i : Nat) : ByteArray := if i = 0 then k.k0 else if i = 1 then k.k1 else if i = 2 then k.k2 else k.k3
def Kep.put (k : Kep) (i : Nat) (b : ByteArray) : Kep :=
  if i = 0 then { k with k0 := b } else if i = 1 then { k with k1 := b } else if i = 2 then { k with k2 := b } else { k with k3 := b }

/-- the first byte of a text, and the rest -/
def hd0 (p : ByteArray) : Nat := ((bytesI p.data.toList).getD 0 0).toNat
def rest1 (p : ByteArray) : ByteArray := p.extract 1 p.size

/-- what is asked of a slot -/
def Dv.slot (d : Dv) (kind : Int) (p : ByteArray) : Dv × Int × List UInt8 :=
  if d.unl = false then (d, 2, [])
  else if p.size = 0 ∨ 4 ≤ hd0 p then (d, 4, [])
  else if kind = 3 ∧ 20 < (rest1 p).size then (d, 4, [])
  else if kind = 3 ∧ 4294967295 ≤ d.k.num then (d, 7, [])
  else if kind = 3 then (d.wrote (d.k.put (hd0 p) (rest1 p)), 0, [])
  else if kind = 5 ∧ (rest1 p).size ≠ 8 then (d, 4, [])
  else if (d.k.key (hd0 p)).size = 0 then (d, 5, [])
  else if kind = 5 then (d, 0, toBytes (digL (refWord (refSeal sumSpecRef (d.k.key (hd0 p)).data.toList (rest1 p).data.toList)) 6))
  else (d, 0, toBytes (refSeal sumSpecRef (d.k.key (hd0 p)).data.toList (rest1 p).data.toList))

theorem empty_of_size {p : ByteArray} (h : p.size = 0) : p = ⟨#[]⟩ := ByteArray.ext (Array.eq_empty_of_size_eq_zero h)
theorem toList_ne_nil {p : ByteArray} (h : ¬ p.size = 0) : p.toList.isEmpty = false := by
  rw [ByteArray.toList_eq, List.isEmpty_eq_false_iff]
  intro e
  have : p.size = p.data.toList.length := by rw [Array.length_toList]; rfl
  rw [e] at this
  exact h this

end Go.Proofs.YtaokemapkgggoaaDoor

namespace Go.Proofs.YtaokemapkgggoaaDoor
open Go.RowKit

theorem arr9b : ArrT Tryd.prog 87 9 (.int .u8 0) := ⟨⟨5, by kernel_rfl⟩, by kernel_rfl⟩
theorem arr100b : ArrT Tryd.prog 75 100 (.int .u8 0) := ⟨⟨5, by kernel_rfl⟩, by kernel_rfl⟩

set_option maxRecDepth 100000 in
set_option maxHeartbeats 1000000 in
theorem prog_pinOf_no (s : ByteArray) (w : World) (hs : s.size < 1 ∨ 8 < s.size) :
    Calls Tryd.prog 42 #[.string s] w fun r w' => r = .returned (.tuple #[.agg (zrow 9 (.int .u8 0)).toArray, .bool false]) ∧ Below w.heap.size w w' := by
  by_cases h0 : s.size = 0
  · obtain rfl := empty_of_size h0
    go_enter Tryd.func42, Tryd.ntmps42
    go_wp2_with (first | (refine wpList_allocR rfl 87 rfl 9 (.int .u8 0) arr9b ?_; go_simp) | (refine wpList_loadR rfl 87 _ rfl (w.heap.size + 1) rfl 87 (zrow 9 (.int .u8 0)) 9 (.int .u8 0) (Row.made1 _ _ _ _) arr9b (zrow_length _ _) ?_; go_simp) | (refine wpList_storeR rfl 87 _ _ rfl w.heap.size rfl (zrow 9 (.int .u8 0)) rfl 87 (zrow 9 (.int .u8 0)) 9 (.int .u8 0) ((Row.made _ _ _).alloc _) arr9b (zrow_length _ _) (zrow_length _ _) (by rw [zrow_u8]; exact u8s_one _) ?_; go_simp))
    refine bodyPost_ret (v := .tuple #[.agg (zrow 9 (.int .u8 0)).toArray, .bool false]) (results_row2 Tryd.results42 _ _ w.heap.size 87 (zrow 9 (.int .u8 0)) 9 (.int .u8 0) (.bool false) rfl rfl (Row.setRow ((Row.made _ _ _).alloc _) _) arr9b (zrow_length _ _)) rfl ⟨rfl, ?_⟩
    exact below_setRow (((Below.refl _ _).alloc (Nat.le_refl _) _).alloc (by simp) _) (Nat.le_refl _) _
  · have h8 : 9 ≤ s.size := by omega
    have hne := toList_ne_nil h0
    go_enter Tryd.func42, Tryd.ntmps42
    go_wp2_with (first | (refine wpList_allocR rfl 87 rfl 9 (.int .u8 0) arr9b ?_; go_simp) | (go_at_call 44; refine (prog_fill_no s _ _ 9 h8).mono ?_; rintro _ w9 ⟨rfl, e9⟩; rw [e9]; clear e9 w9) | (refine wpList_loadR rfl 87 _ rfl (w.heap.size + 1) rfl 87 (zrow 9 (.int .u8 0)) 9 (.int .u8 0) (Row.made1 _ _ _ _) arr9b (zrow_length _ _) ?_; go_simp) | (refine wpList_storeR rfl 87 _ _ rfl w.heap.size rfl (zrow 9 (.int .u8 0)) rfl 87 (zrow 9 (.int .u8 0)) 9 (.int .u8 0) ((Row.made _ _ _).alloc _) arr9b (zrow_length _ _) (zrow_length _ _) (by rw [zrow_u8]; exact u8s_one _) ?_; go_simp))
    refine bodyPost_ret (v := .tuple #[.agg (zrow 9 (.int .u8 0)).toArray, .bool false]) (results_row2 Tryd.results42 _ _ w.heap.size 87 (zrow 9 (.int .u8 0)) 9 (.int .u8 0) (.bool false) rfl rfl (Row.setRow ((Row.made _ _ _).alloc _) _) arr9b (zrow_length _ _)) rfl ⟨rfl, ?_⟩
    exact below_setRow (((Below.refl _ _).alloc (Nat.le_refl _) _).alloc (by simp) _) (Nat.le_refl _) _

set_option maxRecDepth 100000 in
set_option maxHeartbeats 1000000 in
theorem prog_pinOf_yes (s : ByteArray) (w : World) (h1 : 1 ≤ s.size) (h2 : s.size ≤ 8) :
    Calls Tryd.prog 42 #[.string s] w fun r w' => r = .returned (.tuple #[.agg (u8s (fieldOf 9 s.data.toList)).toArray, .bool true]) ∧ Below w.heap.size w w' := by
  obtain ⟨b, HB⟩ : ∃ b, Hid (b = fieldOf 9 s.data.toList) := ⟨_, rfl⟩
  have HL : Hid ((u8s b).length = 9) := by show _ = _; rw [HB.out, u8s_length, fieldOf_length _ _ (by omega)]
  have hne := toList_ne_nil (p := s) (by omega)
  go_enter Tryd.func42, Tryd.ntmps42
  go_wp2_with (first | (refine wpList_allocR rfl 87 rfl 9 (.int .u8 0) arr9b ?_; go_simp) | (go_at_call 44; refine (prog_fill_yes s _ (w.heap.size + 1) 9 87 (Row.made1 _ _ _ _) (by omega) (by omega) (by omega)).mono ?_; rintro _ w1 ⟨rfl, hr1, hb1⟩; rw [← HB.out] at hr1; have ho : Row w1 w.heap.size (zrow 9 (.int .u8 0)) 87 := ((Row.made w _ _).alloc _).below hb1 (Nat.lt_succ_self _); have hw : Below w.heap.size w w1 := (((Below.refl _ _).alloc (Nat.le_refl _) _).alloc (by simp) _).trans (hb1.mono (Nat.le_succ _)); clear hb1) | (refine wpList_loadR rfl 87 _ rfl (w.heap.size + 1) rfl 87 (u8s b) 9 (.int .u8 0) hr1 arr9b HL.out ?_; go_simp) | (refine wpList_storeR rfl 87 _ _ rfl w.heap.size rfl (u8s b) rfl 87 (zrow 9 (.int .u8 0)) 9 (.int .u8 0) ho arr9b HL.out (zrow_length _ _) (u8s_one _) ?_; go_simp))
  refine bodyPost_ret (v := .tuple #[.agg (u8s b).toArray, .bool true]) (results_row2 Tryd.results42 _ _ w.heap.size 87 (u8s b) 9 (.int .u8 0) (.bool true) rfl rfl (Row.setRow ho _) arr9b HL.out) rfl ⟨by rw [HB.out], ?_⟩
  exact below_setRow hw (Nat.le_refl _) _

set_option maxRecDepth 100000 in
set_option maxHeartbeats 1000000 in
theorem prog_slotOf_no (s : ByteArray) (w : World) (h : s.size = 0 ∨ 4 ≤ hd0 s) :
    Calls Tryd.prog 89 #[.string s] w fun r w' => r = .returned (.tuple #[.int .i64 0, .string ⟨#[]⟩, .bool false]) ∧ w' = w := by
  by_cases h0 : s.size = 0
  · obtain rfl := empty_of_size h0
    go_enter Tryd.func89, Tryd.ntmps89
    go_wp2
    go_ret3
    exact ⟨rfl, rfl⟩
  · have hby := byte_at (s := s) (i := 0) (by omega)
    have h4 : 4 ≤ hd0 s := by omega
    unfold hd0 at h4
    have hne := toList_ne_nil h0
    obtain ⟨b0, b1⟩ := getD_isB (bytesI_B s.data.toList) 0
    generalize (bytesI s.data.toList).getD 0 0 = x at *
    have h4' : (4 : Int) ≤ x := by omega
    have hps : (0 : Int) < s.size := by omega
    go_enter Tryd.func89, Tryd.ntmps89
    go_wp2
    go_ret3
    exact ⟨rfl, rfl⟩

set_option maxRecDepth 100000 in
set_option maxHeartbeats 1000000 in
theorem prog_slotOf_yes (s : ByteArray) (w : World) (h : ¬ (s.size = 0 ∨ 4 ≤ hd0 s)) :
    Calls Tryd.prog 89 #[.string s] w fun r w' => r = .returned (.tuple #[.int .i64 (hd0 s : Nat), .string (rest1 s), .bool true]) ∧ Below w.heap.size w w' := by
  have h0 : ¬ s.size = 0 := fun e => h (.inl e)
  have hby := byte_at (s := s) (i := 0) (by omega)
  have h4 : ¬ 4 ≤ hd0 s := fun e => h (.inr e)
  have hne := toList_ne_nil h0
  have hx : ((hd0 s : Nat) : Int) = (bytesI s.data.toList).getD 0 0 := by have := getD_isB (bytesI_B s.data.toList) 0; unfold hd0; unfold isB at this; omega
  rw [← hx] at hby
  clear hx h
  have hps : (0 : Int) < s.size := by omega
  have hps1 : (1 : Int) ≤ s.size := by omega
  have h4' : ¬ (4 : Int) ≤ (hd0 s : Nat) := by omega
  have hr1 : s.extract 1 s.size = rest1 s := rfl
  generalize hd0 s = n at *
  generalize rest1 s = q at *
  go_enter Tryd.func89, Tryd.ntmps89
  go_wp2
  go_quiet (fail)
  go_wp2
  go_ret3
  exact ⟨rfl, below_drewN (Below.refl _ _) _⟩
end Go.Proofs.YtaokemapkgggoaaDoor
