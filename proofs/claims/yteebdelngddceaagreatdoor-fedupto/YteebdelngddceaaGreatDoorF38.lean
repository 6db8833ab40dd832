import Derived.Test.YteebdelngddceaaGreatDoorF16
import Derived.Deep.RegionWith
import Derived.Test.YteebdelngddceaaGreatDoorF36
import Derived.Test.YteebdelngddceaaGreatDoorF37
import Derived.Test.YteebdelngddceaaGreatDoorF28
import Derived.Lib.Builder
import Derived.Laws.Externs
import Derived.Shelf.Strings.Builder1
import Derived.Shelf.LaysM
import Derived.Shelf.Strconv.Clone
namespace Go.Proofs.YteebdelngddceaaGreatDoor
open Go.RowKit

/-- a new device, by its PIN -/
def Dv.fresh (sm : Nat) (p : ByteArray) : Dv :=
  let k : Kep := ⟨1, 5, p, ⟨#[]⟩, ⟨#[]⟩, ⟨#[]⟩, ⟨#[]⟩⟩
  ⟨sm, str k.img, str (padTo 100 []), k, 0, false, false, -1, ⟨#[]⟩⟩

set_option maxRecDepth 100000 in
set_option maxHeartbeats 1000000 in
theorem ref_New_no (sm : Nat) (p : ByteArray) (w : World) (hp : p.size < 1 ∨ 8 < p.size) (hs : p.size < 10000000) :
    Calls Tryz.prog 21 #[.pointer (some ⟨sm, 0, none⟩), .string p] w fun r w' => r = .returned (.tuple #[.pointer none, .int .i64 1]) ∧ w' = w := by
  by_cases h1a : p.size < 1
  · have h1' : (p.size : Int) < 1 := by omega
    go_enter Tryz.func21, Tryz.ntmps21
    go_wp2
    go_ret2
    exact ⟨rfl, rfl⟩
  · have h1' : ¬ (p.size : Int) < 1 := by omega
    have h1'' : (8 : Int) < p.size := by omega
    go_enter Tryz.func21, Tryz.ntmps21
    go_wp2
    go_ret2
    exact ⟨rfl, rfl⟩

set_option maxRecDepth 100000 in
set_option maxHeartbeats 1000000 in
theorem ref_New_yes (sm : Nat) (p : ByteArray) (w : World) (h1 : 1 ≤ p.size) (h2 : p.size ≤ 8) :
    Calls Tryz.prog 21 #[.pointer (some ⟨sm, 0, none⟩), .string p] w fun r w' => ∃ g, w.heap.size ≤ g ∧ r = .returned (.tuple #[.pointer (some ⟨g, 0, none⟩), .int .i64 0]) ∧ DvAt w' g (Dv.fresh sm p) ∧ Below w.heap.size w w' := by
  have q0 : ¬ (p.size : Int) < 1 := by omega
  have q1 : ¬ (8 : Int) < p.size := by omega
  obtain ⟨im, HIM⟩ : ∃ im, Hid (im = str (Kep.img ⟨1, 5, p, ⟨#[]⟩, ⟨#[]⟩, ⟨#[]⟩, ⟨#[]⟩⟩)) := ⟨_, rfl⟩
  obtain ⟨z, HZ⟩ : ∃ z, Hid (z = str (padTo 100 [])) := ⟨_, rfl⟩
  have hkf : Kep.fair ⟨1, 5, p, ⟨#[]⟩, ⟨#[]⟩, ⟨#[]⟩, ⟨#[]⟩⟩ := ⟨by simp only; omega, by simp only; omega, by simp only; omega, by simp only; omega, by simp only; omega, Nat.succ_pos _, Nat.succ_pos _, Nat.succ_pos _, Nat.succ_pos _⟩
  go_enter Tryz.func21, Tryz.ntmps21
  go_wp2
  go_region_with (first | (go_at_call 23; refine (ref_Image ⟨1, 5, p, ⟨#[]⟩, ⟨#[]⟩, ⟨#[]⟩, ⟨#[]⟩⟩ _ hkf).mono ?_; rintro _ w2 ⟨rfl, hb2⟩; rw [← HIM.out]; have hr2 : Row w2 w.heap.size [.pointer (some ⟨sm, 0, none⟩), .string ⟨#[]⟩, .string ⟨#[]⟩, .int .i64 1, .int .i64 5, .string p, .string ⟨#[]⟩, .string ⟨#[]⟩, .string ⟨#[]⟩, .string ⟨#[]⟩, .int .i64 0, .bool false, .bool false, .int .i64 (-1), .string ⟨#[]⟩] 101 := (Row.made w _ _).drew.below hb2 (Row.made w [.pointer (some ⟨sm, 0, none⟩), .string ⟨#[]⟩, .string ⟨#[]⟩, .int .i64 1, .int .i64 5, .string p, .string ⟨#[]⟩, .string ⟨#[]⟩, .string ⟨#[]⟩, .string ⟨#[]⟩, .int .i64 0, .bool false, .bool false, .int .i64 (-1), .string ⟨#[]⟩] 101).lt; have hw2 : Below w.heap.size w w2 := (((Below.refl _ _).alloc (Nat.le_refl _) _).drew).trans (hb2.mono (Nat.le_of_lt (Row.made w [.pointer (some ⟨sm, 0, none⟩), .string ⟨#[]⟩, .string ⟨#[]⟩, .int .i64 1, .int .i64 5, .string p, .string ⟨#[]⟩, .string ⟨#[]⟩, .string ⟨#[]⟩, .string ⟨#[]⟩, .int .i64 0, .bool false, .bool false, .int .i64 (-1), .string ⟨#[]⟩] 101).lt)); have c1 : w2.cell? ⟨w.heap.size, 1, none⟩ = some (.string ⟨#[]⟩) := hr2.cell; have c2 : w2.cell? ⟨w.heap.size, 2, none⟩ = some (.string ⟨#[]⟩) := hr2.cell; have fz := hr2.frozen; clear hb2))
  go_wp2
  go_region_with (first | (go_at_call 51; refine (ref_filled ⟨#[]⟩ 100 _ (by omega) (Nat.succ_pos _)).mono ?_; rintro _ w9 ⟨rfl, e9⟩; rw [e9]; clear e9 w9; rw [show str (padTo 100 (⟨#[]⟩ : ByteArray).data.toList) = z from HZ.out.symm]))
  go_wp2
  go_ret2
  refine ⟨w.heap.size, Nat.le_refl _, rfl, ?_, ?_⟩
  · have hfin := ((hr2.setCell 1 (.string im)).drew.setCell 2 (.string z))
    rw [HIM.out, HZ.out] at hfin
    rw [HIM.out, HZ.out]
    exact hfin
  · exact ((hw2.setCell (Nat.le_refl _) _).drew).setCell (Nat.le_refl _) _
end Go.Proofs.YteebdelngddceaaGreatDoor

namespace Go.Proofs.YteebdelngddceaaGreatDoor
open Go.RowKit

theorem less_good {k : Kep} (h : k.good) (ht : ¬ k.tries = 0) : k.less.good := ⟨h.n0, h.n1, by have := h.t0; simp only [Kep.less]; omega, by have := h.t1; simp only [Kep.less]; omega, h.pin, h.k0, h.k1, h.k2, h.k3⟩
theorem bare_good {k : Kep} (h : k.good) : k.bare.good := ⟨h.n0, h.n1, h.t0, h.t1, h.pin, Nat.zero_le _, Nat.zero_le _, Nat.zero_le _, Nat.zero_le _⟩
theorem full_good {k : Kep} (h : k.good) : k.full.good := ⟨h.n0, h.n1, by simp only [Kep.full]; omega, by simp only [Kep.full]; omega, h.pin, h.k0, h.k1, h.k2, h.k3⟩
theorem Dv.unlock_fit {d : Dv} (f : d.fit) (h : d.ok) (p : ByteArray) : (d.unlock p).1.fit := by
  unfold Dv.unlock
  split
  · exact f
  split
  · exact f
  split
  · exact f
  rename_i ht hw
  have t0 := h.t0
  have t1 := h.t1
  have h1 : (d.wrote d.k.less).ok := Dv.wrote_ok h hw (by show 0 ≤ d.k.tries - 1; omega) (by show d.k.tries - 1 ≤ 5; omega) h.p0 h.p1 h.k0 h.k1 h.k2 h.k3
  have f1 : (d.wrote d.k.less).fit := f.wrote h (less_good h.good ht) h.p0 hw
  split
  · dsimp only
    split
    · rename_i hc
      exact (lock_fit f1).wrote (Dv.lock_ok h1) (bare_good (less_good h.good ht)) h.p0 hc.2
    · exact lock_fit f1
  split
  · exact lock_fit f1
  · rename_i hw2
    exact open_fit (f1.wrote h1 (full_good (less_good h.good ht)) h.p0 hw2)
theorem Dv.slot_fit {d : Dv} (f : d.fit) (h : d.ok) (kind : Int) (p : ByteArray) : (d.slot kind p).1.fit := by
  unfold Dv.slot
  repeat' split
  all_goals first
    | exact f
    | skip
  rename_i hl hw _
  have hq : ¬ 20 < (rest1 p).size := fun e => hl ⟨by assumption, e⟩
  have hw' : ¬ 4294967295 ≤ d.k.num := fun e => hw ⟨by assumption, e⟩
  exact f.wrote h (good_put h.good (by omega)) (by rw [put_pin]; exact h.p0) hw'
theorem Dv.command_fit {d : Dv} (f : d.fit) (h : d.ok) (kind : Int) (p : ByteArray) : (d.command kind p).1.fit := by
  unfold Dv.command
  split
  · exact Dv.unlock_fit f h p
  split
  · split
    · exact lock_fit f
    · exact f
  split
  · split <;> exact f
  split
  · exact Dv.slot_fit f h kind p
  split
  · split
    · exact f
    split
    · exact f
    split
    · exact f
    · rename_i hp hw
      exact f.wrote (k := d.k.withPin p) h ⟨h.good.n0, h.good.n1, h.good.t0, h.good.t1, by show p.size ≤ 8; omega, h.k0, h.k1, h.k2, h.k3⟩ (by show 1 ≤ p.size; omega) hw
  · exact f

/-- what has come is no part of what a command does -/
def Dv.inB (d : Dv) (c : ByteArray) : Dv := { d with inn := c }
theorem Dv.unlock_inB (d : Dv) (c p : ByteArray) : (d.inB c).unlock p = ((d.unlock p).1.inB c, (d.unlock p).2) := by
  unfold Dv.unlock
  simp only [show (d.inB c).k = d.k from rfl]
  split
  · rfl
  split
  · rfl
  split
  · rfl
  split
  · dsimp only
    split <;> rfl
  split <;> rfl
theorem Dv.slot_inB (d : Dv) (c : ByteArray) (kind : Int) (p : ByteArray) : (d.inB c).slot kind p = ((d.slot kind p).1.inB c, (d.slot kind p).2) := by
  unfold Dv.slot
  simp only [show (d.inB c).k = d.k from rfl, show (d.inB c).unl = d.unl from rfl]
  repeat' split
  all_goals rfl
theorem Dv.command_inB (d : Dv) (c : ByteArray) (kind : Int) (p : ByteArray) : (d.inB c).command kind p = ((d.command kind p).1.inB c, (d.command kind p).2) := by
  unfold Dv.command
  rw [Dv.unlock_inB, Dv.slot_inB]
  simp only [show (d.inB c).k = d.k from rfl, show (d.inB c).unl = d.unl from rfl]
  repeat' split
  all_goals rfl
theorem inB_ok {d : Dv} (ok : d.ok) (c : ByteArray) : (d.inB c).ok := ⟨ok.n0, ok.n1, ok.t0, ok.t1, ok.p0, ok.p1, ok.k0, ok.k1, ok.k2, ok.k3, ok.wh, ok.off, ok.cut⟩
theorem inB_fit {d : Dv} (h : d.fit) (c : ByteArray) : (d.inB c).fit := ⟨h.l0, h.l1, h.keeps, h.img⟩
theorem withIn_fit {d : Dv} (h : d.fit) (l : List UInt8) : (d.withIn l).fit := ⟨h.l0, h.l1, h.keeps, h.img⟩
theorem feedF_inB (n : Nat) (d : Dv) (c : ByteArray) (l : List UInt8) : feedF n (d.inB c) l = feedF n d l := by
  cases n <;> rfl

/-- the device behind all frames -/
theorem feedF_good : ∀ (n : Nat) (d : Dv) (l : List UInt8), l.length < n → d.ok → d.fit → (feedF n d l).2.ok ∧ (feedF n d l).2.fit ∧ (feedF n d l).2.sm = d.sm ∧ (feedF n d l).2.inn.size < 52
  | 0, d, l, h, _, _ => absurd h (by omega)
  | n + 1, d, l, h, ok, f => by
    have hsl := skip_length l
    by_cases hw : (skip l).length < 2 ∨ (fLen (skip l) ≤ 48 ∧ (skip l).length < fLen (skip l) + 4)
    · rw [feedF_wait rfl hw]
      refine ⟨Dv.withIn_ok ok _, withIn_fit f _, rfl, ?_⟩
      show (str (skip l)).size < 52
      rw [str_size]
      omega
    · by_cases hb : 48 < fLen (skip l) ∨ ¬ (1 + sumB (((skip l).drop 1).take (fLen (skip l) + 2))) % 256 = (bytesI (skip l)).getD (fLen (skip l) + 3) 0
      · rw [feedF_bad rfl hw hb]
        exact feedF_good n (d.withIn ((skip l).drop 1)) ((skip l).drop 1) (by rw [List.length_drop]; omega) (Dv.withIn_ok ok _) (withIn_fit f _)
      · rw [feedF_cmd rfl hw hb rfl]
        have hk := Dv.command_ok (Dv.withIn_ok ok ((skip l).drop (fLen (skip l) + 4))) ((bytesI (skip l)).getD 2 0) (str (((skip l).drop 3).take (fLen (skip l))))
        have hf := Dv.command_fit (withIn_fit f ((skip l).drop (fLen (skip l) + 4))) (Dv.withIn_ok ok _) ((bytesI (skip l)).getD 2 0) (str (((skip l).drop 3).take (fLen (skip l))))
        have := feedF_good n _ ((skip l).drop (fLen (skip l) + 4)) (by rw [List.length_drop]; omega) hk.1 hf
        exact ⟨this.1, this.2.1, this.2.2.1.trans hk.2.sm, this.2.2.2⟩

theorem zero_mark : ¬ bAt (List.replicate 100 0) 0 = 167 := by decide
theorem fresh_ok (sm : Nat) (p : ByteArray) (h1 : 1 ≤ p.size) (h2 : p.size ≤ 8) : (Dv.fresh sm p).ok :=
  ⟨by simp only [Dv.fresh]; omega, by simp only [Dv.fresh]; omega, by simp only [Dv.fresh]; omega, by simp only [Dv.fresh]; omega, h1, h2, Nat.zero_le _, Nat.zero_le _, Nat.zero_le _, Nat.zero_le _, .inl rfl, rfl, by simp only [Dv.fresh]; omega⟩
theorem fresh_fit (sm : Nat) (p : ByteArray) (h1 : 1 ≤ p.size) (h2 : p.size ≤ 8) : (Dv.fresh sm p).fit := by
  have hg := (fresh_ok sm p h1 h2).good
  have e0 : Bs (Dv.fresh sm p).h0 = (Dv.fresh sm p).k.img := str_list _
  have e1 : Bs (Dv.fresh sm p).h1 = List.replicate 100 0 := (str_list _).trans rfl
  refine ⟨by rw [e0]; exact Kep.img_length hg, by rw [e1]; rfl, ?_, ?_⟩
  · rw [e0, e1]
    exact .inl ⟨rfl, told_true (Kep.img_right hg (by simp only [Dv.fresh]; omega) h1), .inl ⟨fun e => (by cases e), fun _ => zero_mark⟩⟩
  · rw [if_pos (show (Dv.fresh sm p).wh = 0 from rfl)]; exact e0
end Go.Proofs.YteebdelngddceaaGreatDoor

namespace Go.Proofs.YteebdelngddceaaGreatDoor
open Go.RowKit

theorem size_builder : (Tryz.prog.info? 127).map (·.size) = some 2 := by kernel_rfl
theorem lies_builder : liesAt Tryz.prog Tryz.prog.depth 127 (2 / Tryz.prog.cellsOf 127) 0 127 1 = true := by kernel_rfl
theorem under_pb : Tryz.prog.underlying 125 = some (.pointer 127) := by kernel_rfl
theorem under_up : Tryz.prog.underlying 155 = some .unsafePointer := by kernel_rfl

theorem run_noEscape (w : World) (x : Value) : (callFunc 97 #[x]).run Tryz.prog w = .ok (.value x) w := by
  rw [run_callFunc_extern Tryz.func97 (by kernel_rfl) (by kernel_rfl) (by kernel_rfl) (e := Extern.AbiNoEscape.same) (by kernel_rfl), Lib.run_noEscape]
  rfl

set_option maxRecDepth 100000 in
set_option maxHeartbeats 1000000 in
theorem prog_copyCheck_used (b : Nat) (w : World) (h0 : w.cell? ⟨b, 0, none⟩ = some (.pointer (some ⟨b, 0, none⟩))) :
    Calls Tryz.prog 90 #[.pointer (some ⟨b, 0, none⟩)] w fun e w' => e = .returned (.tuple #[]) ∧ w' = w := by
  obtain ⟨j, hj, _⟩ := Option.map_eq_some_iff.1 size_builder
  have hne := Lib.run_neq_ptr_same w ⟨b, 0, none⟩ under_pb hj
  clear hj
  go_enter Tryz.func90, Tryz.ntmps90
  go_wp2
  go_end0
  exact ⟨rfl, rfl⟩

set_option maxRecDepth 100000 in
set_option maxHeartbeats 1000000 in
theorem prog_copyCheck_fresh (b : Nat) (w : World) (h0 : w.cell? ⟨b, 0, none⟩ = some (.pointer none)) (hsh : w.shape? b = some (127, 2)) (hfz : w.frozen? ⟨b, 0, none⟩ = false) :
    Calls Tryz.prog 90 #[.pointer (some ⟨b, 0, none⟩)] w fun e w' => e = .returned (.tuple #[]) ∧ w' = w.setCell ⟨b, 0, none⟩ (.pointer (some ⟨b, 0, none⟩)) := by
  obtain ⟨j, hj, hjs⟩ := Option.map_eq_some_iff.1 size_builder
  have hne := Lib.run_neq_ptr_same (w.setCell ⟨b, 0, none⟩ (.pointer (some ⟨b, 0, none⟩))) ⟨b, 0, none⟩ under_pb hj
  have hto := Lib.run_to_unsafe w ⟨b, 0, none⟩ under_pb under_up hj (by rw [hjs]; decide) hsh (Nat.zero_lt_succ 1)
  have hfrom := Lib.run_from_unsafe w ⟨b, 0, none⟩ under_up under_pb hj hsh lies_builder
  clear hj
  have hex := run_noEscape w (.pointer (some ⟨b, 0, none⟩))
  go_enter Tryz.func90, Tryz.ntmps90
  go_wp2
  go_end0
  exact ⟨rfl, rfl⟩

theorem prog_copyCheck (B b : Nat) (bs : List Value) (w : World) (h : Lib.IsBuilder 127 5 B b bs w) :
    Calls Tryz.prog 90 #[.pointer (some ⟨b, 0, none⟩)] w fun e w' => e = .returned (.tuple #[]) ∧ Lib.BuilderAt 127 5 B b (.pointer (some ⟨b, 0, none⟩)) bs w' ∧ Below B w w' := by
  rcases h with h | h
  · refine (prog_copyCheck_fresh b w h.cell0 h.shape h.frozen0).mono ?_
    rintro e w' ⟨rfl, rfl⟩
    exact ⟨rfl, h.used _, (Below.refl B w).setCell (p := ⟨b, 0, none⟩) h.1 _⟩
  · refine (prog_copyCheck_used b w h.cell0).mono ?_
    rintro e w' ⟨rfl, rfl⟩
    exact ⟨rfl, h, Below.refl B _⟩

set_option maxRecDepth 100000 in
set_option maxHeartbeats 1000000 in
theorem prog_WriteString (B b : Nat) (bs : List Value) (s : ByteArray) (w : World) (h : Lib.IsBuilder 127 5 B b bs w) (hlen : bs.length + s.size ≤ 1000000000) (hBw : B ≤ w.heap.size) :
    Calls Tryz.prog 74 #[.pointer (some ⟨b, 0, none⟩), .string s] w fun e w' => e = .returned (.tuple #[.int .i64 s.size, .nilIface]) ∧ Lib.BuilderAt 127 5 B b (.pointer (some ⟨b, 0, none⟩)) (bs ++ Lib.strCells s) w' ∧ Below B w w' := by
  obtain ⟨i0, hi, hz0, hz1, hz2⟩ := info_parts slB.i
  have HI : Hid _ := hi
  have HZ0 : Hid _ := hz0
  have HZ1 : Hid _ := hz1
  have HZ2 : Hid _ := hz2
  clear hi hz0 hz1 hz2
  go_enter Tryz.func74, Tryz.ntmps74
  go_wp2_with (go_at_call 90; refine (prog_copyCheck B b bs _ h).mono ?_)
  rintro e w1 ⟨rfl, h1, hb1⟩
  obtain ⟨hB, v, hbk, hown, hne⟩ := h1
  have c0 : w1.cell? ⟨b, 0, none⟩ = some (.pointer (some ⟨b, 0, none⟩)) := by rw [Lib.cell_of_heap hbk]; rfl
  have c1 : w1.cell? ⟨b, 1, none⟩ = some v := by rw [Lib.cell_of_heap hbk]; rfl
  go_wp2_with (at_builtin; refine Lib.wpList_append_own_string _ rfl _ _ 49 9 rfl B 5 i0 slB.u under_str HI.out HZ0.out HZ1.out HZ2.out _ _ _ rfl hown s rfl ?c3 ?c4 ?c5 ?_)
  case c3 => unfold maxLen; omega
  case c4 => omega
  case c5 => have := hb1.size; omega
  intro v' w2 hown' hgrow _
  have hlt : b < w1.heap.size := (Array.getElem?_eq_some_iff.1 hbk).1
  have hb2 : w2.heap[b]? = some (.cells #[.pointer (some ⟨b, 0, none⟩), v] 127 (0, 0)) := by
    rw [hgrow.block b hlt (fun e => hne e.symm)]
    exact hbk
  have d0 : w2.cell? ⟨b, 0, none⟩ = some (.pointer (some ⟨b, 0, none⟩)) := by rw [Lib.cell_of_heap hb2]; rfl
  have d1 : w2.cell? ⟨b, 1, none⟩ = some v := by rw [Lib.cell_of_heap hb2]; rfl
  have f1 : w2.frozen? ⟨b, 1, none⟩ = false := Lib.frozen_of_heap hb2 1
  obtain ⟨ao, n', cap, rfl⟩ : ∃ ao n' cap, v' = .slice ao n' cap := by
    rcases hown'.2 with ⟨hv, _⟩ | ⟨g, cap, cur, hv, _⟩
    · exact ⟨_, _, _, hv⟩
    · exact ⟨_, _, _, hv⟩
  go_wp2
  go_ret2
  refine ⟨rfl, ?_, ?_⟩
  · exact Lib.BuilderAt.put (T := 127) (e := 5) hB hb2 (bs' := bs ++ Lib.strCells s) (by simpa [Lib.strCells_length] using hown') (by decide)
  · exact (hb1.grown hgrow (by have := hb1.size; omega) (fun k hk => (hown.lt k hk).1)).setCell (p := ⟨b, 1, none⟩) hB _
end Go.Proofs.YteebdelngddceaaGreatDoor

namespace Go.Proofs.YteebdelngddceaaGreatDoor
open Go.Shelf
def shelf_lays169_ren : Go.Shelf.Ren := ⟨fun | 169 => 77 | n => n, fun | 70 => 125 | 9 => 9 | 0 => 0 | 72 => 127 | 37 => 49 | 127 => 150 | 3 => 3 | 5 => 5 | n => n, fun | n => n⟩
theorem shelf_lays169 : Go.Proofs.Lays.n169 Tryz.prog shelf_lays169_ren := {
  mixed := by kernel_rfl
  f169 := Tryz.func77.trans (congrArg some (by kernel_rfl))
  t0 := Tryz.underlying0
  a0 := Tryz.isAgg0
  z0 := Tryz.sizeOf0
  v0 := Tryz.zeroValue0
  t3 := Tryz.underlying3
  a3 := Tryz.isAgg3
  z3 := Tryz.sizeOf3
  v3 := Tryz.zeroValue3
  t9 := Tryz.underlying9
  a9 := Tryz.isAgg9
  z9 := Tryz.sizeOf9
  v9 := Tryz.zeroValue9
  t37 := Tryz.underlying49
  a37 := Tryz.isAgg49
  z37 := Tryz.sizeOf49
  v37 := Tryz.zeroValue49
  t70 := Tryz.underlying125
  a70 := Tryz.isAgg125
  z70 := Tryz.sizeOf125
  v70 := Tryz.zeroValue125
  t72 := Tryz.underlying127
  a72 := Tryz.isAgg127
  z72 := Tryz.sizeOf127
  v72 := Tryz.zeroValue127
  t127 := Tryz.underlying150
  a127 := Tryz.isAgg150
  z127 := Tryz.sizeOf150
  v127 := Tryz.zeroValue150 }
theorem shelf_Builder_Extra_169 : Builder.Extra Tryz.prog shelf_lays169_ren := {
  sizeBuilder := by kernel_rfl
  liesBuilder := by kernel_rfl
  t5 := Tryz.underlying5
  a5 := Tryz.isAgg5
  z5 := Tryz.sizeOf5
  v5 := Tryz.zeroValue5
  infoByte := by kernel_rfl
  cellsByte := by kernel_rfl
  sizeByte := by kernel_rfl
  neB5 := by decide }
open Go.RowKit in
theorem shelf_Builder_String (B b : Nat) (l : List UInt8) (w : World) (h : Lib.IsBuilder 127 5 B b (Lib.byteCells l) w) (h0 : l ≠ []) :
    Calls Tryz.prog 77 #[.pointer (some ⟨b, 0, none⟩)] w fun e w' => e = .returned (.string ⟨l.toArray⟩) ∧ Below B w w' := Any.Builder_String shelf_lays169 shelf_Builder_Extra_169 B b l w h h0
open Go.RowKit in
theorem shelf_Builder_String_empty (B b : Nat) (w : World) (h : Lib.IsBuilder 127 5 B b [] w) (hBw : B ≤ w.heap.size) :
    Calls Tryz.prog 77 #[.pointer (some ⟨b, 0, none⟩)] w fun e w' => e = .returned (.string ⟨#[]⟩) ∧ Below B w w' := Any.Builder_String_empty shelf_lays169 shelf_Builder_Extra_169 B b w h hBw
open Go.RowKit in
theorem shelf_Builder_String_any (B b : Nat) (l : List UInt8) (w : World) (h : Lib.IsBuilder 127 5 B b (Lib.byteCells l) w) (hBw : B ≤ w.heap.size) :
    Calls Tryz.prog 77 #[.pointer (some ⟨b, 0, none⟩)] w fun e w' => e = .returned (.string ⟨l.toArray⟩) ∧ Below B w w' := Any.Builder_String_any shelf_lays169 shelf_Builder_Extra_169 B b l w h hBw
def shelf_laysM316_ren : Go.Shelf.Ren := ⟨fun | 316 => 92 | n => n, fun | 9 => 9 | 3 => 3 | 4 => 4 | 37 => 49 | 0 => 0 | 127 => 150 | 5 => 5 | n => n, fun | n => n⟩
theorem shelf_laysM316 : Go.Proofs.LaysM.n316 Tryz.prog shelf_laysM316_ren := {
  mixed := by kernel_rfl
  f316 := Tryz.func92.trans (congrArg some (by kernel_rfl))
  t0 := Tryz.underlying0
  a0 := Tryz.isAgg0
  z0 := Tryz.sizeOf0
  v0 := Tryz.zeroValue0
  t3 := Tryz.underlying3
  a3 := Tryz.isAgg3
  z3 := Tryz.sizeOf3
  v3 := Tryz.zeroValue3
  t4 := Tryz.underlying4
  a4 := Tryz.isAgg4
  z4 := Tryz.sizeOf4
  v4 := Tryz.zeroValue4
  t9 := Tryz.underlying9
  a9 := Tryz.isAgg9
  z9 := Tryz.sizeOf9
  v9 := Tryz.zeroValue9
  t37 := Tryz.underlying49
  a37 := Tryz.isAgg49
  z37 := Tryz.sizeOf49
  v37 := Tryz.zeroValue49
  t127 := Tryz.underlying150
  a127 := Tryz.isAgg150
  z127 := Tryz.sizeOf150
  v127 := Tryz.zeroValue150
  t5 := Tryz.underlying5
  a5 := Tryz.isAgg5
  z5 := Tryz.sizeOf5
  v5 := Tryz.zeroValue5
  i0 := by kernel_rfl
  i3 := by kernel_rfl
  i4 := by kernel_rfl
  i5 := by kernel_rfl
  i9 := by kernel_rfl
  i37 := by kernel_rfl
  i127 := by kernel_rfl }
open Go.RowKit in
theorem shelf_stringslite_Clone (s : ByteArray) (w : World) (hlim : s.size ≤ 281474976710656) :
    Calls Tryz.prog 92 #[.string s] w fun e w' => e = .returned (.string s) ∧ Below w.heap.size w w' := Any.stringslite_Clone shelf_laysM316 s w hlim
end Go.Proofs.YteebdelngddceaaGreatDoor
