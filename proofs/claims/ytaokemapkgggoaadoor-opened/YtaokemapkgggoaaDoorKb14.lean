import Derived.Test.YtaokemapkgggoaaDoorKb13
import Derived.Test.YtaokemapkgggoaaDoorKb09
import Derived.Deep.RegionLaw
import Derived.Deep.RegionHeld3
import Derived.Test.YtaokemapkgggoaaDoorKb11
import Derived.Test.YtaokemapkgggoaaDoorKb10
namespace Go.Proofs.YtaokemapkgggoaaDoor
open Go.RowKit

theorem drewN_drew (w : World) (n : Nat) : (w.drewN n).drew = w.drewN (n + 1) := by
  rw [show (w.drewN n).drew = (w.drewN n).drewN 1 from rfl, World.drewN_drewN]
theorem size_img : (Tryd.prog.info? 75).map (·.size) = some 100 := by kernel_rfl
theorem run_indexFlash (w : World) (g o i : Nat) (x : Int) (hx : x = i) (hi : i < 2) (p : Nat) (hp : p = o + 100 * i) : (Instr.indexAt 77 (.pointer (some ⟨g, o, none⟩)) (.int .i64 x)).run Tryd.prog w = .ok (.pointer (some ⟨g, p, none⟩)) w := by
  subst hx hp
  cases hq : Tryd.prog.info? 75 with
  | none => have := size_img; simp [hq] at this
  | some q =>
    have hs : q.size = 100 := by have := size_img; simpa [hq] using this
    simp [Instr.indexAt, asIntOf, run_underlying under_flash, Instr.sureAddr, sizeOf, typeInfo, hq, hs, Addr.add]
    rw [if_pos (by omega)]
    rcases (by omega : i = 0 ∨ i = 1) with rfl | rfl <;> simp

set_option maxRecDepth 100000 in
set_option maxHeartbeats 1000000 in
theorem prog_kept_ff (w : World) (g o o1 : Nat) (ho : o1 = o + 100) (h0 h1 : List UInt8) (b0 : Bool) (i0 : ImgAt w g o h0) (i1 : ImgAt w g o1 h1) (t0 : Told h0 b0) (t1 : Told h1 false) :
    Calls Tryd.prog 41 #[.pointer (some ⟨g, o, none⟩)] w fun r w' => r = .returned (.tuple #[.int .i64 0, .bool b0]) ∧ ∃ n, w' = w.drewN n := by
  have I0 : Hid _ := i0
  have I1 : Hid _ := i1
  have T0 : Hid (Told h0 b0) := t0
  have T1 : Hid (Told h1 false) := t1
  clear i0 i1 t0 t1
  have x0 := fun wx => run_indexFlash wx g o 0 0 rfl (by omega) o (by omega)
  have x1 := fun wx => run_indexFlash wx g o 1 1 rfl (by omega) o1 (by omega)
  clear ho
  go_enter Tryd.func41, Tryd.ntmps41
  go_wp2
  refine wp_region_quiet_lit (by kernel_rfl) (by kernel_rfl) ?_
  quiet_step (fail)
  quiet_step (fail)
  quiet_step (fail)
  quiet_step (exact Calls.quiet_of (prog_rightI _ g o h0 b0 (I0.out.drewN _) T0.out))
  quiet_step (fail)
  quiet_step (fail)
  quiet_step (fail)
  quiet_step (exact Calls.quiet_of (prog_rightI _ g o1 h1 false (I1.out.drewN _) T1.out))
  quiet_step (fail)
  quiet_step (fail)
  refine wpQuiet_nil ?_
  intro _ hw'
  obtain ⟨nq, hw''⟩ := hw'
  subst hw''
  have J0 : Hid _ := I0.out.drewN nq
  have J1 : Hid _ := I1.out.drewN nq
  obtain ⟨w1, HW1⟩ : ∃ w1, Hid (w1 = w.drewN nq) := ⟨_, rfl⟩
  rw [← HW1.out] at J0 J1
  rw [← HW1.out]
  clear I0 I1
  go_wp2
  go_region
  go_wp2
  go_ret2
  exact ⟨rfl, nq + 1, by rw [HW1.out]; exact drewN_drew w nq⟩

set_option maxRecDepth 100000 in
set_option maxHeartbeats 1000000 in
theorem prog_kept_ft (w : World) (g o o1 : Nat) (ho : o1 = o + 100) (h0 h1 : List UInt8) (i0 : ImgAt w g o h0) (i1 : ImgAt w g o1 h1) (t0 : Told h0 false) (t1 : Told h1 true) :
    Calls Tryd.prog 41 #[.pointer (some ⟨g, o, none⟩)] w fun r w' => r = .returned (.tuple #[.int .i64 1, .bool true]) ∧ ∃ n, w' = w.drewN n := by
  have I0 : Hid _ := i0
  have I1 : Hid _ := i1
  have T0 : Hid (Told h0 false) := t0
  have T1 : Hid (Told h1 true) := t1
  clear i0 i1 t0 t1
  have x0 := fun wx => run_indexFlash wx g o 0 0 rfl (by omega) o (by omega)
  have x1 := fun wx => run_indexFlash wx g o 1 1 rfl (by omega) o1 (by omega)
  clear ho
  go_enter Tryd.func41, Tryd.ntmps41
  go_wp2
  refine wp_region_quiet_lit (by kernel_rfl) (by kernel_rfl) ?_
  quiet_step (fail)
  quiet_step (fail)
  quiet_step (fail)
  quiet_step (exact Calls.quiet_of (prog_rightI _ g o h0 false (I0.out.drewN _) T0.out))
  quiet_step (fail)
  quiet_step (fail)
  quiet_step (fail)
  quiet_step (exact Calls.quiet_of (prog_rightI _ g o1 h1 true (I1.out.drewN _) T1.out))
  quiet_step (fail)
  quiet_step (fail)
  refine wpQuiet_nil ?_
  intro _ hw'
  obtain ⟨nq, hw''⟩ := hw'
  subst hw''
  have J0 : Hid _ := I0.out.drewN nq
  have J1 : Hid _ := I1.out.drewN nq
  obtain ⟨w1, HW1⟩ : ∃ w1, Hid (w1 = w.drewN nq) := ⟨_, rfl⟩
  rw [← HW1.out] at J0 J1
  rw [← HW1.out]
  clear I0 I1
  go_wp2
  go_region
  go_wp2
  go_ret2
  exact ⟨rfl, nq + 1, by rw [HW1.out]; exact drewN_drew w nq⟩

set_option maxRecDepth 100000 in
set_option maxHeartbeats 1000000 in
theorem prog_kept_tt1 (w : World) (g o o1 : Nat) (ho : o1 = o + 100) (h0 h1 : List UInt8) (i0 : ImgAt w g o h0) (i1 : ImgAt w g o1 h1) (t0 : Told h0 true) (t1 : Told h1 true) (hn : numOf h0 < numOf h1) :
    Calls Tryd.prog 41 #[.pointer (some ⟨g, o, none⟩)] w fun r w' => r = .returned (.tuple #[.int .i64 1, .bool true]) ∧ ∃ n, w' = w.drewN n := by
  have I0 : Hid _ := i0
  have I1 : Hid _ := i1
  have T0 : Hid (Told h0 true) := t0
  have T1 : Hid (Told h1 true) := t1
  clear i0 i1 t0 t1
  have x0 := fun wx => run_indexFlash wx g o 0 0 rfl (by omega) o (by omega)
  have x1 := fun wx => run_indexFlash wx g o 1 1 rfl (by omega) o1 (by omega)
  clear ho
  go_enter Tryd.func41, Tryd.ntmps41
  go_wp2
  refine wp_region_quiet_lit (by kernel_rfl) (by kernel_rfl) ?_
  quiet_step (fail)
  quiet_step (fail)
  quiet_step (fail)
  quiet_step (exact Calls.quiet_of (prog_rightI _ g o h0 true (I0.out.drewN _) T0.out))
  quiet_step (fail)
  quiet_step (fail)
  quiet_step (fail)
  quiet_step (exact Calls.quiet_of (prog_rightI _ g o1 h1 true (I1.out.drewN _) T1.out))
  quiet_step (fail)
  quiet_step (fail)
  refine wpQuiet_nil ?_
  intro _ hw'
  obtain ⟨nq, hw''⟩ := hw'
  subst hw''
  have J0 : Hid _ := I0.out.drewN nq
  have J1 : Hid _ := I1.out.drewN nq
  obtain ⟨w1, HW1⟩ : ∃ w1, Hid (w1 = w.drewN nq) := ⟨_, rfl⟩
  rw [← HW1.out] at J0 J1
  rw [← HW1.out]
  clear I0 I1
  go_wp2
  refine wp_region_quiet_lit (by kernel_rfl) (by kernel_rfl) ?_
  quiet_step (fail)
  quiet_step (fail)
  quiet_step (fail)
  quiet_step (fail)
  quiet_step (fail)
  quiet_step (fail)
  quiet_step (fail)
  quiet_step (fail)
  quiet_step (exact Calls.quiet_of (prog_number _ g o1 h1 (J1.out.drewN _)))
  quiet_step (fail)
  quiet_step (fail)
  quiet_step (fail)
  quiet_step (exact Calls.quiet_of (prog_number _ g o h0 (J0.out.drewN _)))
  quiet_step (fail)
  quiet_step (fail)
  quiet_step (fail)
  refine wpQuiet_nil ?_
  intro _ hw'
  obtain ⟨nq, hw''⟩ := hw'
  subst hw''
  go_wp2
  go_ret2
  exact ⟨rfl, _, by rw [HW1.out, World.drewN_drewN]⟩

set_option maxRecDepth 100000 in
set_option maxHeartbeats 1000000 in
theorem prog_kept_tt0 (w : World) (g o o1 : Nat) (ho : o1 = o + 100) (h0 h1 : List UInt8) (i0 : ImgAt w g o h0) (i1 : ImgAt w g o1 h1) (t0 : Told h0 true) (t1 : Told h1 true) (hn : ¬ numOf h0 < numOf h1) :
    Calls Tryd.prog 41 #[.pointer (some ⟨g, o, none⟩)] w fun r w' => r = .returned (.tuple #[.int .i64 0, .bool true]) ∧ ∃ n, w' = w.drewN n := by
  have I0 : Hid _ := i0
  have I1 : Hid _ := i1
  have T0 : Hid (Told h0 true) := t0
  have T1 : Hid (Told h1 true) := t1
  clear i0 i1 t0 t1
  have x0 := fun wx => run_indexFlash wx g o 0 0 rfl (by omega) o (by omega)
  have x1 := fun wx => run_indexFlash wx g o 1 1 rfl (by omega) o1 (by omega)
  clear ho
  go_enter Tryd.func41, Tryd.ntmps41
  go_wp2
  refine wp_region_quiet_lit (by kernel_rfl) (by kernel_rfl) ?_
  quiet_step (fail)
  quiet_step (fail)
  quiet_step (fail)
  quiet_step (exact Calls.quiet_of (prog_rightI _ g o h0 true (I0.out.drewN _) T0.out))
  quiet_step (fail)
  quiet_step (fail)
  quiet_step (fail)
  quiet_step (exact Calls.quiet_of (prog_rightI _ g o1 h1 true (I1.out.drewN _) T1.out))
  quiet_step (fail)
  quiet_step (fail)
  refine wpQuiet_nil ?_
  intro _ hw'
  obtain ⟨nq, hw''⟩ := hw'
  subst hw''
  have J0 : Hid _ := I0.out.drewN nq
  have J1 : Hid _ := I1.out.drewN nq
  obtain ⟨w1, HW1⟩ : ∃ w1, Hid (w1 = w.drewN nq) := ⟨_, rfl⟩
  rw [← HW1.out] at J0 J1
  rw [← HW1.out]
  clear I0 I1
  go_wp2
  refine wp_region_quiet_lit (by kernel_rfl) (by kernel_rfl) ?_
  quiet_step (fail)
  quiet_step (fail)
  quiet_step (fail)
  quiet_step (fail)
  quiet_step (fail)
  quiet_step (fail)
  quiet_step (fail)
  quiet_step (fail)
  quiet_step (exact Calls.quiet_of (prog_number _ g o1 h1 (J1.out.drewN _)))
  quiet_step (fail)
  quiet_step (fail)
  quiet_step (fail)
  quiet_step (exact Calls.quiet_of (prog_number _ g o h0 (J0.out.drewN _)))
  quiet_step (fail)
  quiet_step (fail)
  quiet_step (fail)
  refine wpQuiet_nil ?_
  intro _ hw'
  obtain ⟨nq, hw''⟩ := hw'
  subst hw''
  go_wp2
  go_ret2
  exact ⟨rfl, _, by rw [HW1.out, World.drewN_drewN]⟩

end Go.Proofs.YtaokemapkgggoaaDoor

namespace Go.Proofs.YtaokemapkgggoaaDoor
open Go.RowKit

def goL : Code → Code
  | .seq a _ => a
  | c => c
def goR : Code → Code
  | .seq _ b => b
  | c => c
def goI : Code → Code
  | .loop c => c
  | .block _ c => c
  | .scope c => c
  | c => c
/-- the only way out is the one out of the block of that number -/
def onlyExit (k : Nat) (N : Act → World → Prop) : Exit → Act → World → Prop
  | .exit j, a, w => j = k ∧ N a w
  | _, _, _ => False
def goR4 (c : Code) : Code := goR (goR (goR (goR c)))
theorem wrap8_id (n : Int) (h0 : 0 ≤ n) (h1 : n < 256) : IntKind.u8.wrap n = n := by
  simp only [IntKind.wrap, IntKind.bits, IntKind.signed]
  simp
  omega
theorem eightTo_take (n : Int) (i : Nat) (h : i < 8) : (eightTo n 8).take (i + 1) = (eightTo n 8).take i ++ [n / 2 ^ (56 - 8 * i) % 256] := by
  rw [List.take_succ_eq_append_getElem (by rw [eightTo_length]; exact h)]
  congr 2
  simp [eightTo, h]
theorem pow_step (i : Nat) (h : i < 8) : (72057594037927936 : Int) / 256 ^ i = 2 ^ (56 - 8 * i) := by
  match i, h with
  | 0, _ => rfl
  | 1, _ => rfl
  | 2, _ => rfl
  | 3, _ => rfl
  | 4, _ => rfl
  | 5, _ => rfl
  | 6, _ => rfl
  | 7, _ => rfl
theorem div_256 (i : Nat) : (72057594037927936 : Int) / 256 ^ i / 256 = 72057594037927936 / 256 ^ (i + 1) := by
  rw [Int.ediv_ediv_of_nonneg (Int.pow_nonneg (by omega)), Int.pow_succ]
theorem pow_bd8 (i : Nat) (h : i < 8) : 1 ≤ (2 : Int) ^ (56 - 8 * i) ∧ (2 : Int) ^ (56 - 8 * i) ≤ 72057594037927936 := by
  have h1 : (2 : Nat) ^ (56 - 8 * i) ≤ 2 ^ 56 := Nat.pow_le_pow_right (by omega) (by omega)
  have h2 : 0 < (2 : Nat) ^ (56 - 8 * i) := Nat.pow_pos (by omega)
  have e : ((2 ^ (56 - 8 * i) : Nat) : Int) = (2 : Int) ^ (56 - 8 * i) := by simp
  have h3 : (2 : Nat) ^ 56 = 72057594037927936 := by decide
  omega

theorem blk_byte {T : ByteArray} {tl : List UInt8} (h : Hid (T.data.toList = tl)) {a j : Nat} (ha : a + 64 ≤ T.size) (hj : j < 64) : ((T[a + j]'(by omega)).toNat : Int) = (blk 64 (tl.drop a)).getD j 0 := by
  have hsz : tl.length = T.size := by rw [← h.out, Array.length_toList]; rfl
  have hl : j < ((tl.drop a).take 64).length := by rw [List.length_take, List.length_drop]; omega
  have h1 : (blk 64 (tl.drop a)).getD j 0 = ((((tl.drop a).take 64)[j]'hl).toNat : Int) := by
    unfold blk List.getD
    rw [List.getElem?_append_left (by rw [bytesI, List.length_map]; exact hl), bytesI, List.getElem?_map, List.getElem?_eq_getElem hl]
    rfl
  rw [h1]
  congr 2
  rw [List.getElem_take, List.getElem_drop]
  have h2 := h.out
  subst h2
  rfl

end Go.Proofs.YtaokemapkgggoaaDoor

namespace Go.Proofs.YtaokemapkgggoaaDoor
open Go.RowKit

end Go.Proofs.YtaokemapkgggoaaDoor

namespace Go.Proofs.YtaokemapkgggoaaDoor
open Go.RowKit

end Go.Proofs.YtaokemapkgggoaaDoor

namespace Go.Proofs.YtaokemapkgggoaaDoor
open Go.RowKit

end Go.Proofs.YtaokemapkgggoaaDoor

namespace Go.Proofs.YtaokemapkgggoaaDoor
open Go.RowKit

end Go.Proofs.YtaokemapkgggoaaDoor

namespace Go.Proofs.YtaokemapkgggoaaDoor
open Go.RowKit

end Go.Proofs.YtaokemapkgggoaaDoor

namespace Go.Proofs.YtaokemapkgggoaaDoor
open Go.RowKit

end Go.Proofs.YtaokemapkgggoaaDoor

namespace Go.Proofs.YtaokemapkgggoaaDoor
open Go.RowKit

end Go.Proofs.YtaokemapkgggoaaDoor

namespace Go.Proofs.YtaokemapkgggoaaDoor
open Go.RowKit

end Go.Proofs.YtaokemapkgggoaaDoor

namespace Go.Proofs.YtaokemapkgggoaaDoor
open Go.RowKit

end Go.Proofs.YtaokemapkgggoaaDoor

namespace Go.Proofs.YtaokemapkgggoaaDoor
open Go.RowKit

theorem Dv.ok.put {d : Dv} (h : d.ok) (n : Nat) (q : ByteArray) (hq : q.size ≤ 20) : (d.k.put n q).fair := by
  have f := h.fair
  unfold Kep.put
  split
  · exact ⟨f.n0, f.n1, f.t0, f.t1, f.pin, by show q.size < _; omega, f.k1, f.k2, f.k3⟩
  · split
    · exact ⟨f.n0, f.n1, f.t0, f.t1, f.pin, f.k0, by show q.size < _; omega, f.k2, f.k3⟩
    · split
      · exact ⟨f.n0, f.n1, f.t0, f.t1, f.pin, f.k0, f.k1, by show q.size < _; omega, f.k3⟩
      · exact ⟨f.n0, f.n1, f.t0, f.t1, f.pin, f.k0, f.k1, f.k2, by show q.size < _; omega⟩

theorem keep_slot {w W wx : World} {g n sm : Nat} {kb : ByteArray} (hg : g < w.heap.size) (hb : Below W.heap.size W wx)
    (h : W.cell? ⟨g, 0, none⟩ = some (.pointer (some ⟨sm, 0, none⟩)) ∧ W.cell? ⟨g, 6 + n, none⟩ = some (.string kb) ∧ Summ W sm ∧ Below w.heap.size w W) :
    wx.cell? ⟨g, 0, none⟩ = some (.pointer (some ⟨sm, 0, none⟩)) ∧ wx.cell? ⟨g, 6 + n, none⟩ = some (.string kb) ∧ Summ wx sm ∧ Below w.heap.size w wx :=
  have hgW : g < W.heap.size := Nat.lt_of_lt_of_le hg h.2.2.2.size
  ⟨(hb.cell (p := ⟨g, 0, none⟩) hgW).trans h.1, (hb.cell (p := ⟨g, 6 + n, none⟩) hgW).trans h.2.1, h.2.2.1.below hb (Nat.le_refl _), h.2.2.2.trans (hb.mono h.2.2.2.size)⟩

end Go.Proofs.YtaokemapkgggoaaDoor

namespace Go.Proofs.YtaokemapkgggoaaDoor
open Go.RowKit

/-- a bit for each of the first i slots that has a key -/
def Kep.bits (k : Kep) : Nat → Int
  | 0 => 0
  | i + 1 => k.bits i + (if (k.key i).size = 0 then 0 else 2 ^ i)
def Kep.withPin (k : Kep) (p : ByteArray) : Kep := { k with pin := p }

/-- a command -/
def Dv.command (d : Dv) (kind : Int) (p : ByteArray) : Dv × Int × List UInt8 :=
  if kind = 1 then d.unlock p
  else if kind = 2 then (if p.size = 0 then (d.lock, 0, []) else (d, 4, []))
  else if kind = 7 then (if p.size = 0 then (d, 0, [b8 (if d.unl then 1 else 0), b8 d.k.tries, b8 (d.k.bits 4)]) else (d, 4, []))
  else if kind = 3 ∨ kind = 4 ∨ kind = 5 then d.slot kind p
  else if kind = 6 then
    (if d.unl = false then (d, 2, []) else if p.size < 1 ∨ 8 < p.size then (d, 4, []) else if 4294967295 ≤ d.k.num then (d, 7, []) else (d.wrote (d.k.withPin p), 0, []))
  else (d, 6, [])

theorem Kep.bits_bd (k : Kep) : ∀ i, i ≤ 4 → 0 ≤ k.bits i ∧ k.bits i < 2 ^ i
  | 0, _ => by simp [Kep.bits]
  | i + 1, h => by
    have := Kep.bits_bd k i (by omega)
    simp only [Kep.bits]
    have e : (2 : Int) ^ (i + 1) = 2 ^ i + 2 ^ i := by rw [Int.pow_succ]; omega
    split <;> omega

end Go.Proofs.YtaokemapkgggoaaDoor

namespace Go.Proofs.YtaokemapkgggoaaDoor
open Go.RowKit

/-- what stays as it was -/
structure Dv.same (d e : Dv) : Prop where
  sm : e.sm = d.sm
  inn : e.inn = d.inn
theorem Dv.same.refl (d : Dv) : d.same d := ⟨rfl, rfl⟩
theorem Dv.wrote_ok {d : Dv} {k : Kep} (h : d.ok) (hw : ¬ 4294967295 ≤ d.k.num) (t0 : 0 ≤ k.tries) (t1 : k.tries ≤ 5) (p0 : 1 ≤ k.pin.size) (p1 : k.pin.size ≤ 8) (k0 : k.k0.size ≤ 20) (k1 : k.k1.size ≤ 20) (k2 : k.k2.size ≤ 20) (k3 : k.k3.size ≤ 20) : (d.wrote k).ok := by
  have n0 := h.n0
  have wh := h.wh
  refine ⟨?_, ?_, t0, t1, p0, p1, k0, k1, k2, k3, ?_, h.off, ?_⟩
  · show 1 ≤ d.k.num + 1; omega
  · show d.k.num + 1 ≤ _; omega
  · show 1 - d.wh = 0 ∨ 1 - d.wh = 1; omega
  · show (if d.cut < 0 then d.cut else d.cut - 101) < 0
    rw [if_pos h.cut]; exact h.cut
theorem Dv.lock_ok {d : Dv} (h : d.ok) : d.lock.ok := ⟨h.n0, h.n1, h.t0, h.t1, h.p0, h.p1, h.k0, h.k1, h.k2, h.k3, h.wh, h.off, h.cut⟩
theorem Dv.open_ok {d : Dv} (h : d.ok) : d.open.ok := ⟨h.n0, h.n1, h.t0, h.t1, h.p0, h.p1, h.k0, h.k1, h.k2, h.k3, h.wh, h.off, h.cut⟩
theorem Dv.unlock_ok {d : Dv} (h : d.ok) (p : ByteArray) : (d.unlock p).1.ok ∧ d.same (d.unlock p).1 := by
  unfold Dv.unlock
  split
  · exact ⟨h, .refl d⟩
  split
  · exact ⟨h, .refl d⟩
  split
  · exact ⟨h, .refl d⟩
  rename_i ht hw
  have t0 := h.t0
  have t1 := h.t1
  have h1 : (d.wrote d.k.less).ok := Dv.wrote_ok h hw (by show 0 ≤ d.k.tries - 1; omega) (by show d.k.tries - 1 ≤ 5; omega) h.p0 h.p1 h.k0 h.k1 h.k2 h.k3
  split
  · dsimp only
    split
    · rename_i hc
      exact ⟨Dv.wrote_ok (Dv.lock_ok h1) hc.2 (by show 0 ≤ d.k.tries - 1; omega) (by show d.k.tries - 1 ≤ 5; omega) h.p0 h.p1 (Nat.zero_le _) (Nat.zero_le _) (Nat.zero_le _) (Nat.zero_le _), ⟨rfl, rfl⟩⟩
    · exact ⟨Dv.lock_ok h1, ⟨rfl, rfl⟩⟩
  split
  · exact ⟨Dv.lock_ok h1, ⟨rfl, rfl⟩⟩
  · rename_i hw2
    exact ⟨Dv.open_ok (Dv.wrote_ok h1 hw2 (by show (0 : Int) ≤ 5; omega) (by show (5 : Int) ≤ 5; omega) h.p0 h.p1 h.k0 h.k1 h.k2 h.k3), ⟨rfl, rfl⟩⟩
theorem Dv.slot_ok {d : Dv} (h : d.ok) (kind : Int) (p : ByteArray) : (d.slot kind p).1.ok ∧ d.same (d.slot kind p).1 := by
  unfold Dv.slot
  repeat' split
  all_goals first
    | exact ⟨h, .refl d⟩
    | skip
  rename_i hl hw _
  have hq : ¬ 20 < (rest1 p).size := fun e => hl ⟨by assumption, e⟩
  have hw' : ¬ 4294967295 ≤ d.k.num := fun e => hw ⟨by assumption, e⟩
  have hq' : (rest1 p).size ≤ 20 := by omega
  refine ⟨?_, ⟨rfl, rfl⟩⟩
  unfold Kep.put
  repeat' split
  · exact Dv.wrote_ok h hw' h.t0 h.t1 h.p0 h.p1 hq' h.k1 h.k2 h.k3
  · exact Dv.wrote_ok h hw' h.t0 h.t1 h.p0 h.p1 h.k0 hq' h.k2 h.k3
  · exact Dv.wrote_ok h hw' h.t0 h.t1 h.p0 h.p1 h.k0 h.k1 hq' h.k3
  · exact Dv.wrote_ok h hw' h.t0 h.t1 h.p0 h.p1 h.k0 h.k1 h.k2 hq'
theorem Dv.command_ok {d : Dv} (h : d.ok) (kind : Int) (p : ByteArray) : (d.command kind p).1.ok ∧ d.same (d.command kind p).1 := by
  unfold Dv.command
  split
  · exact Dv.unlock_ok h p
  split
  · split
    · exact ⟨Dv.lock_ok h, ⟨rfl, rfl⟩⟩
    · exact ⟨h, .refl d⟩
  split
  · split <;> exact ⟨h, .refl d⟩
  split
  · exact Dv.slot_ok h kind p
  split
  · split
    · exact ⟨h, .refl d⟩
    split
    · exact ⟨h, .refl d⟩
    split
    · exact ⟨h, .refl d⟩
    · rename_i hp hw
      exact ⟨Dv.wrote_ok (k := d.k.withPin p) h hw h.t0 h.t1 (by show 1 ≤ p.size; omega) (by show p.size ≤ 8; omega) h.k0 h.k1 h.k2 h.k3, ⟨rfl, rfl⟩⟩
  · exact ⟨h, .refl d⟩
end Go.Proofs.YtaokemapkgggoaaDoor

namespace Go.Proofs.YtaokemapkgggoaaDoor
open Go.RowKit

/-- bytes ahead of A5 are passed over -/
def skip (l : List UInt8) : List UInt8 := l.dropWhile (fun b => b != 165)
theorem skip_at : ∀ (l : List UInt8) (n : Nat), n ≤ l.length → (∀ j, j < n → (bytesI l).getD j 0 ≠ 165) → (n = l.length ∨ (bytesI l).getD n 0 = 165) → skip l = l.drop n
  | [], n, h, _, _ => by simp [skip]
  | b :: l, 0, _, _, h => by
    rcases h with h | h
    · simp at h
    · have hb : b = 165 := by
        simp only [bytesI, List.map_cons, List.getD_cons_zero] at h
        exact UInt8.toNat_inj.1 (by simpa using (by omega : b.toNat = 165))
      subst hb
      simp [skip]
  | b :: l, n + 1, hn, ha, h => by
    have hb : b ≠ 165 := by
      intro e
      have := ha 0 (by omega)
      rw [e] at this
      exact this rfl
    have ih := skip_at l n (by simpa using hn) (fun j hj => by have := ha (j + 1) (by omega); simpa [bytesI] using this) (by
      rcases h with h | h
      · left; simpa using h
      · right; simpa [bytesI] using h)
    rw [List.drop_succ_cons, ← ih]
    unfold skip
    rw [List.dropWhile_cons, if_pos (by simpa using hb)]
theorem skip_length (l : List UInt8) : (skip l).length ≤ l.length := by
  unfold skip
  exact (List.dropWhile_suffix _).length_le

/-- the length that a frame tells -/
def fLen (l : List UInt8) : Nat := ((bytesI l).getD 1 0).toNat
def fWait (l : List UInt8) : Bool := decide (l.length < 2 ∨ (fLen l ≤ 48 ∧ l.length < fLen l + 4))
def fBad (l : List UInt8) : Bool := decide (48 < fLen l ∨ ¬ (1 + sumB ((l.drop 1).take (fLen l + 2))) % 256 = (bytesI l).getD (fLen l + 3) 0)
def Dv.withIn (d : Dv) (l : List UInt8) : Dv := { d with inn := str l }

/-- what is answered to some bytes, and the device behind it -/
def feedF : Nat → Dv → List UInt8 → List UInt8 × Dv
  | 0, d, l => ([], d.withIn l)
  | n + 1, d, l =>
    if fWait (skip l) = true then ([], d.withIn (skip l))
    else if fBad (skip l) = true then
      (told 1 [] ++ (feedF n (d.withIn ((skip l).drop 1)) ((skip l).drop 1)).1, (feedF n (d.withIn ((skip l).drop 1)) ((skip l).drop 1)).2)
    else
      let c := (d.withIn ((skip l).drop (fLen (skip l) + 4))).command ((bytesI (skip l)).getD 2 0) (str (((skip l).drop 3).take (fLen (skip l))))
      (told c.2.1 c.2.2 ++ (feedF n c.1 ((skip l).drop (fLen (skip l) + 4))).1, (feedF n c.1 ((skip l).drop (fLen (skip l) + 4))).2)

/-- one round, by the bytes behind those that are passed over -/
theorem feedF_wait {n : Nat} {d : Dv} {l s : List UInt8} (hs : skip l = s) (h : s.length < 2 ∨ (fLen s ≤ 48 ∧ s.length < fLen s + 4)) : feedF (n + 1) d l = ([], d.withIn s) := by
  unfold feedF
  rw [hs, if_pos (by simpa [fWait] using h)]
theorem feedF_bad {n : Nat} {d : Dv} {l s : List UInt8} (hs : skip l = s) (h : ¬ (s.length < 2 ∨ (fLen s ≤ 48 ∧ s.length < fLen s + 4))) (hb : 48 < fLen s ∨ ¬ (1 + sumB ((s.drop 1).take (fLen s + 2))) % 256 = (bytesI s).getD (fLen s + 3) 0) :
    feedF (n + 1) d l = (told 1 [] ++ (feedF n (d.withIn (s.drop 1)) (s.drop 1)).1, (feedF n (d.withIn (s.drop 1)) (s.drop 1)).2) := by
  rw [feedF, hs, if_neg (by simpa only [fWait, decide_eq_true_eq] using h), if_pos (by simpa only [fBad, decide_eq_true_eq] using hb)]
theorem feedF_cmd {n : Nat} {d : Dv} {l s : List UInt8} {c : Dv × Int × List UInt8} (hs : skip l = s) (h : ¬ (s.length < 2 ∨ (fLen s ≤ 48 ∧ s.length < fLen s + 4))) (hb : ¬ (48 < fLen s ∨ ¬ (1 + sumB ((s.drop 1).take (fLen s + 2))) % 256 = (bytesI s).getD (fLen s + 3) 0))
    (hc : c = (d.withIn (s.drop (fLen s + 4))).command ((bytesI s).getD 2 0) (str ((s.drop 3).take (fLen s)))) :
    feedF (n + 1) d l = (told c.2.1 c.2.2 ++ (feedF n c.1 (s.drop (fLen s + 4))).1, (feedF n c.1 (s.drop (fLen s + 4))).2) := by
  rw [feedF, hs, if_neg (by simpa only [fWait, decide_eq_true_eq] using h), if_neg (by simpa only [fBad, decide_eq_true_eq] using hb), hc]

theorem told_length (st : Int) (p : List UInt8) : (told st p).length = p.length + 4 := by simp [told]
theorem Dv.unlock_len (d : Dv) (p : ByteArray) : (d.unlock p).2.2.length ≤ 32 ∧ 0 ≤ (d.unlock p).2.1 ∧ (d.unlock p).2.1 < 256 := by
  unfold Dv.unlock
  repeat' split
  all_goals (simp <;> omega)
theorem digL_len (x : Int) (n : Nat) : (digL x n).length = n := digL_length x n
theorem Dv.slot_len (d : Dv) (kind : Int) (p : ByteArray) : (d.slot kind p).2.2.length ≤ 32 ∧ 0 ≤ (d.slot kind p).2.1 ∧ (d.slot kind p).2.1 < 256 := by
  unfold Dv.slot
  repeat' split
  all_goals refine ⟨?_, by simp, by simp⟩
  all_goals first
    | (rw [toBytes_length, digL_len]; omega)
    | (rw [toBytes_length]; unfold refSeal; rw [sumRef_length]; omega)
    | simp
theorem Dv.command_len (d : Dv) (kind : Int) (p : ByteArray) : (d.command kind p).2.2.length ≤ 32 ∧ 0 ≤ (d.command kind p).2.1 ∧ (d.command kind p).2.1 < 256 := by
  unfold Dv.command
  split
  · exact d.unlock_len p
  split
  · split <;> simp
  split
  · split <;> simp
  split
  · exact d.slot_len kind p
  split
  · repeat' split
    all_goals simp
  · simp
end Go.Proofs.YtaokemapkgggoaaDoor

namespace Go.Proofs.YtaokemapkgggoaaDoor
open Go.RowKit

theorem ret_ib {a b : Int} {p q : Bool} (h : a = b) (k : p = q) : Ending.returned (.tuple #[.int .i64 a, .bool p]) = .returned (.tuple #[.int .i64 b, .bool q]) := by rw [h, k]
theorem ne_dec (y z : Int) : (y != z) = decide (¬ z = y) := by
  by_cases e : z = y
  · simp [e]
  · have e' : ¬ y = z := fun h => e h.symm
    simp [e, e']
theorem extL2 (b : ByteArray) (i j : Nat) : (b.extract i j).data.toList = (b.data.toList.drop i).take (j - i) := by
  rw [ByteArray.data_extract, Array.toList_extract, List.extract_eq_take_drop]

set_option maxRecDepth 100000 in
set_option maxHeartbeats 1000000 in
theorem prog_frameEnd_short (w : World) (s : ByteArray) (h : s.size < 2) :
    Calls Tryd.prog 51 #[.string s] w fun r w' => r = .returned (.tuple #[.int .i64 0, .bool false]) ∧ w' = w := by
  have h' : (s.size : Int) ≤ 1 := by omega
  go_enter Tryd.func51, Tryd.ntmps51
  go_wp2
  go_ret2
  exact ⟨rfl, rfl⟩

set_option maxRecDepth 100000 in
set_option maxHeartbeats 1000000 in
theorem prog_frameEnd_long (w : World) (s : ByteArray) (h : ¬ s.size < 2) (h48 : 48 < fLen s.data.toList) :
    Calls Tryd.prog 51 #[.string s] w fun r w' => r = .returned (.tuple #[.int .i64 0, .bool true]) ∧ w' = w := by
  have h' : ¬ (s.size : Int) ≤ 1 := by omega
  have hby1 := byte_at (s := s) (i := 1) (by omega)
  have hbd1 := getD_isB (bytesI_B s.data.toList) 1
  have HFL : Hid (((fLen s.data.toList : Nat) : Int) = (bytesI s.data.toList).getD 1 0) := by show _ = _; unfold fLen; omega
  rw [← HFL.out] at hby1 hbd1
  obtain ⟨hn0, hn1⟩ := hbd1
  generalize fLen s.data.toList = fl at *
  have h1s : (1 : Int) < s.size := by omega
  have h48' : (48 : Int) < fl := by omega
  go_enter Tryd.func51, Tryd.ntmps51
  go_wp2
  go_ret2
  exact ⟨rfl, rfl⟩

set_option maxRecDepth 100000 in
set_option maxHeartbeats 1000000 in
theorem prog_frameEnd_wait (w : World) (s : ByteArray) (h : ¬ s.size < 2) (h48 : fLen s.data.toList ≤ 48) (hw : s.size < fLen s.data.toList + 4) :
    Calls Tryd.prog 51 #[.string s] w fun r w' => r = .returned (.tuple #[.int .i64 0, .bool false]) ∧ w' = w := by
  have h' : ¬ (s.size : Int) ≤ 1 := by omega
  have hby1 := byte_at (s := s) (i := 1) (by omega)
  have hbd1 := getD_isB (bytesI_B s.data.toList) 1
  have HFL : Hid (((fLen s.data.toList : Nat) : Int) = (bytesI s.data.toList).getD 1 0) := by show _ = _; unfold fLen; omega
  rw [← HFL.out] at hby1 hbd1
  obtain ⟨hn0, hn1⟩ := hbd1
  generalize fLen s.data.toList = fl at *
  have h1s : (1 : Int) < s.size := by omega
  have h48' : ¬ (48 : Int) < fl := by omega
  have hw' : (s.size : Int) < 4 + (fl : Int) := by omega
  go_enter Tryd.func51, Tryd.ntmps51
  go_wp2
  go_ret2
  exact ⟨rfl, rfl⟩

set_option maxRecDepth 100000 in
set_option maxHeartbeats 1000000 in
theorem prog_frameEnd_whole (w : World) (s : ByteArray) (h : ¬ s.size < 2) (h48 : fLen s.data.toList ≤ 48) (hw : ¬ s.size < fLen s.data.toList + 4) :
    Calls Tryd.prog 51 #[.string s] w fun r w' => r = .returned (.tuple #[.int .i64 ((fLen s.data.toList : Int) + 4), .bool (decide (¬ (1 + sumB ((s.data.toList.drop 1).take (fLen s.data.toList + 2))) % 256 = (bytesI s.data.toList).getD (fLen s.data.toList + 3) 0))]) ∧ ∃ n, w' = w.drewN n := by
  have h' : ¬ (s.size : Int) ≤ 1 := by omega
  have hby1 := byte_at (s := s) (i := 1) (by omega)
  have hbd1 := getD_isB (bytesI_B s.data.toList) 1
  have HFL : Hid (((fLen s.data.toList : Nat) : Int) = (bytesI s.data.toList).getD 1 0) := by show _ = _; unfold fLen; omega
  rw [← HFL.out] at hby1 hbd1
  clear HFL
  obtain ⟨hn0, hn1⟩ := hbd1
  obtain ⟨fl, HFLN⟩ : ∃ fl, Hid (fl = fLen s.data.toList) := ⟨_, rfl⟩
  rw [← HFLN.out] at hby1 hn0 hn1 h48 hw
  rw [← HFLN.out]
  have hby3 := byte_at (s := s) (i := fl + 3) (by omega)
  obtain ⟨y, HY⟩ : ∃ y, Hid (y = (bytesI s.data.toList).getD (fl + 3) 0) := ⟨_, rfl⟩
  rw [← HY.out] at hby3
  rw [← HY.out]
  obtain ⟨q, HQ⟩ : ∃ q, Hid (q = s.extract 1 (fl + 3)) := ⟨_, rfl⟩
  have hql : Hid (q.data.toList = (s.data.toList.drop 1).take (fl + 2)) := by show _ = _; rw [HQ.out, extL2]; rfl
  have hqs : q.size ≤ 100 := by rw [HQ.out, ByteArray.size_extract]; omega
  have hqe : s.extract 1 (fl + 3) = q := HQ.out.symm
  clear HQ
  rw [← hql.out]
  obtain ⟨cv, HCV⟩ : ∃ cv, Hid (cv = (1 + sumB q.data.toList) % 256) := ⟨_, rfl⟩
  rw [← HCV.out]
  have h1s : (1 : Int) < s.size := by omega
  have h48' : ¬ (48 : Int) < fl := by omega
  have hw' : ¬ (s.size : Int) < 4 + (fl : Int) := by omega
  have e1 : IntKind.i64.wrap (4 + (fl : Int) - 1) = (fl : Int) + 3 := by rw [wrap_id _ (by omega) (by omega)]; omega
  have e2 : ((fl : Int) + 3).toNat = fl + 3 := by omega
  have e3 : (fl : Int) + 3 < s.size := by omega
  have e4 : (0 : Int) ≤ (fl : Int) + 3 := by omega
  have e5 : (fl : Int) + 3 ≤ s.size := by omega
  have e6 : (1 : Int) ≤ (fl : Int) + 3 := by omega
  go_enter Tryd.func51, Tryd.ntmps51
  go_wp2
  go_quiet ((go_at_call 64; exact Calls.quiet_of_same (prog_checkS _ q (by omega))))
  go_wp2
  go_ret2
  refine ⟨ret_ib (by omega) ?_, _, rfl⟩
  rw [HCV.out]
  exact ne_dec _ _
end Go.Proofs.YtaokemapkgggoaaDoor
