import Derived.Test.YtaokemapkgggoaaGreatDoorFd21
import Derived.Test.YtaokemapkgggoaaGreatDoorFd12
import Derived.Deep.RegionLaw
import Derived.Deep.RegionHeld3
namespace Go.Proofs.YtaokemapkgggoaaGreatDoor
open Go.RowKit

theorem drewN_drew (w : World) (n : Nat) : (w.drewN n).drew = w.drewN (n + 1) := by
  rw [show (w.drewN n).drew = (w.drewN n).drewN 1 from rfl, World.drewN_drewN]
theorem size_img : (Tryz.prog.info? 93).map (·.size) = some 100 := by kernel_rfl
theorem run_indexFlash (w : World) (g o i : Nat) (x : Int) (hx : x = i) (hi : i < 2) (p : Nat) (hp : p = o + 100 * i) : (Instr.indexAt 96 (.pointer (some ⟨g, o, none⟩)) (.int .i64 x)).run Tryz.prog w = .ok (.pointer (some ⟨g, p, none⟩)) w := by
  subst hx hp
  cases hq : Tryz.prog.info? 93 with
  | none => have := size_img; simp [hq] at this
  | some q =>
    have hs : q.size = 100 := by have := size_img; simpa [hq] using this
    simp [Instr.indexAt, asIntOf, run_underlying under_flash, Instr.sureAddr, sizeOf, typeInfo, hq, hs, Addr.add]
    rw [if_pos (by omega)]
    rcases (by omega : i = 0 ∨ i = 1) with rfl | rfl <;> simp

set_option maxRecDepth 100000 in
set_option maxHeartbeats 1000000 in
theorem prog_kept_ff (w : World) (g o o1 : Nat) (ho : o1 = o + 100) (h0 h1 : List UInt8) (b0 : Bool) (i0 : ImgAt w g o h0) (i1 : ImgAt w g o1 h1) (t0 : Told h0 b0) (t1 : Told h1 false) :
    Calls Tryz.prog 54 #[.pointer (some ⟨g, o, none⟩)] w fun r w' => r = .returned (.tuple #[.int .i64 0, .bool b0]) ∧ ∃ n, w' = w.drewN n := by
  have I0 : Hid _ := i0
  have I1 : Hid _ := i1
  have T0 : Hid (Told h0 b0) := t0
  have T1 : Hid (Told h1 false) := t1
  clear i0 i1 t0 t1
  have x0 := fun wx => run_indexFlash wx g o 0 0 rfl (by omega) o (by omega)
  have x1 := fun wx => run_indexFlash wx g o 1 1 rfl (by omega) o1 (by omega)
  clear ho
  go_enter Tryz.func54, Tryz.ntmps54
  go_wp2
  refine wp_region_quiet_lit (by kernel_rfl) (by kernel_rfl) ?_
  quiet_step (fail)
  quiet_step (fail)
  quiet_step (fail)
  quiet_step (exact Calls.quiet_of (prog_rightI _ g o h0 b0 (I0.out.drewN _) T0.out))
  quiet_step (fail)
  quiet_step (fail)
  quiet_step (fail)
  quiet_step (exact Calls.quiet_of (prog_rightI _ g o1 h1 false (I1.out.drewN _) T1.out))
  quiet_step (fail)
  quiet_step (fail)
  refine wpQuiet_nil ?_
  intro _ hw'
  obtain ⟨nq, hw''⟩ := hw'
  subst hw''
  have J0 : Hid _ := I0.out.drewN nq
  have J1 : Hid _ := I1.out.drewN nq
  obtain ⟨w1, HW1⟩ : ∃ w1, Hid (w1 = w.drewN nq) := ⟨_, rfl⟩
  rw [← HW1.out] at J0 J1
  rw [← HW1.out]
  clear I0 I1
  go_wp2
  go_region
  go_wp2
  go_ret2
  exact ⟨rfl, nq + 1, by rw [HW1.out]; exact drewN_drew w nq⟩

set_option maxRecDepth 100000 in
set_option maxHeartbeats 1000000 in
theorem prog_kept_ft (w : World) (g o o1 : Nat) (ho : o1 = o + 100) (h0 h1 : List UInt8) (i0 : ImgAt w g o h0) (i1 : ImgAt w g o1 h1) (t0 : Told h0 false) (t1 : Told h1 true) :
    Calls Tryz.prog 54 #[.pointer (some ⟨g, o, none⟩)] w fun r w' => r = .returned (.tuple #[.int .i64 1, .bool true]) ∧ ∃ n, w' = w.drewN n := by
  have I0 : Hid _ := i0
  have I1 : Hid _ := i1
  have T0 : Hid (Told h0 false) := t0
  have T1 : Hid (Told h1 true) := t1
  clear i0 i1 t0 t1
  have x0 := fun wx => run_indexFlash wx g o 0 0 rfl (by omega) o (by omega)
  have x1 := fun wx => run_indexFlash wx g o 1 1 rfl (by omega) o1 (by omega)
  clear ho
  go_enter Tryz.func54, Tryz.ntmps54
  go_wp2
  refine wp_region_quiet_lit (by kernel_rfl) (by kernel_rfl) ?_
  quiet_step (fail)
  quiet_step (fail)
  quiet_step (fail)
  quiet_step (exact Calls.quiet_of (prog_rightI _ g o h0 false (I0.out.drewN _) T0.out))
  quiet_step (fail)
  quiet_step (fail)
  quiet_step (fail)
  quiet_step (exact Calls.quiet_of (prog_rightI _ g o1 h1 true (I1.out.drewN _) T1.out))
  quiet_step (fail)
  quiet_step (fail)
  refine wpQuiet_nil ?_
  intro _ hw'
  obtain ⟨nq, hw''⟩ := hw'
  subst hw''
  have J0 : Hid _ := I0.out.drewN nq
  have J1 : Hid _ := I1.out.drewN nq
  obtain ⟨w1, HW1⟩ : ∃ w1, Hid (w1 = w.drewN nq) := ⟨_, rfl⟩
  rw [← HW1.out] at J0 J1
  rw [← HW1.out]
  clear I0 I1
  go_wp2
  go_region
  go_wp2
  go_ret2
  exact ⟨rfl, nq + 1, by rw [HW1.out]; exact drewN_drew w nq⟩

set_option maxRecDepth 100000 in
set_option maxHeartbeats 1000000 in
theorem prog_kept_tt1 (w : World) (g o o1 : Nat) (ho : o1 = o + 100) (h0 h1 : List UInt8) (i0 : ImgAt w g o h0) (i1 : ImgAt w g o1 h1) (t0 : Told h0 true) (t1 : Told h1 true) (hn : numOf h0 < numOf h1) :
    Calls Tryz.prog 54 #[.pointer (some ⟨g, o, none⟩)] w fun r w' => r = .returned (.tuple #[.int .i64 1, .bool true]) ∧ ∃ n, w' = w.drewN n := by
  have I0 : Hid _ := i0
  have I1 : Hid _ := i1
  have T0 : Hid (Told h0 true) := t0
  have T1 : Hid (Told h1 true) := t1
  clear i0 i1 t0 t1
  have x0 := fun wx => run_indexFlash wx g o 0 0 rfl (by omega) o (by omega)
  have x1 := fun wx => run_indexFlash wx g o 1 1 rfl (by omega) o1 (by omega)
  clear ho
  go_enter Tryz.func54, Tryz.ntmps54
  go_wp2
  refine wp_region_quiet_lit (by kernel_rfl) (by kernel_rfl) ?_
  quiet_step (fail)
  quiet_step (fail)
  quiet_step (fail)
  quiet_step (exact Calls.quiet_of (prog_rightI _ g o h0 true (I0.out.drewN _) T0.out))
  quiet_step (fail)
  quiet_step (fail)
  quiet_step (fail)
  quiet_step (exact Calls.quiet_of (prog_rightI _ g o1 h1 true (I1.out.drewN _) T1.out))
  quiet_step (fail)
  quiet_step (fail)
  refine wpQuiet_nil ?_
  intro _ hw'
  obtain ⟨nq, hw''⟩ := hw'
  subst hw''
  have J0 : Hid _ := I0.out.drewN nq
  have J1 : Hid _ := I1.out.drewN nq
  obtain ⟨w1, HW1⟩ : ∃ w1, Hid (w1 = w.drewN nq) := ⟨_, rfl⟩
  rw [← HW1.out] at J0 J1
  rw [← HW1.out]
  clear I0 I1
  go_wp2
  refine wp_region_quiet_lit (by kernel_rfl) (by kernel_rfl) ?_
  quiet_step (fail)
  quiet_step (fail)
  quiet_step (fail)
  quiet_step (fail)
  quiet_step (fail)
  quiet_step (fail)
  quiet_step (fail)
  quiet_step (fail)
  quiet_step (exact Calls.quiet_of (prog_number _ g o1 h1 (J1.out.drewN _)))
  quiet_step (fail)
  quiet_step (fail)
  quiet_step (fail)
  quiet_step (exact Calls.quiet_of (prog_number _ g o h0 (J0.out.drewN _)))
  quiet_step (fail)
  quiet_step (fail)
  quiet_step (fail)
  refine wpQuiet_nil ?_
  intro _ hw'
  obtain ⟨nq, hw''⟩ := hw'
  subst hw''
  go_wp2
  go_ret2
  exact ⟨rfl, _, by rw [HW1.out, World.drewN_drewN]⟩

set_option maxRecDepth 100000 in
set_option maxHeartbeats 1000000 in
theorem prog_kept_tt0 (w : World) (g o o1 : Nat) (ho : o1 = o + 100) (h0 h1 : List UInt8) (i0 : ImgAt w g o h0) (i1 : ImgAt w g o1 h1) (t0 : Told h0 true) (t1 : Told h1 true) (hn : ¬ numOf h0 < numOf h1) :
    Calls Tryz.prog 54 #[.pointer (some ⟨g, o, none⟩)] w fun r w' => r = .returned (.tuple #[.int .i64 0, .bool true]) ∧ ∃ n, w' = w.drewN n := by
  have I0 : Hid _ := i0
  have I1 : Hid _ := i1
  have T0 : Hid (Told h0 true) := t0
  have T1 : Hid (Told h1 true) := t1
  clear i0 i1 t0 t1
  have x0 := fun wx => run_indexFlash wx g o 0 0 rfl (by omega) o (by omega)
  have x1 := fun wx => run_indexFlash wx g o 1 1 rfl (by omega) o1 (by omega)
  clear ho
  go_enter Tryz.func54, Tryz.ntmps54
  go_wp2
  refine wp_region_quiet_lit (by kernel_rfl) (by kernel_rfl) ?_
  quiet_step (fail)
  quiet_step (fail)
  quiet_step (fail)
  quiet_step (exact Calls.quiet_of (prog_rightI _ g o h0 true (I0.out.drewN _) T0.out))
  quiet_step (fail)
  quiet_step (fail)
  quiet_step (fail)
  quiet_step (exact Calls.quiet_of (prog_rightI _ g o1 h1 true (I1.out.drewN _) T1.out))
  quiet_step (fail)
  quiet_step (fail)
  refine wpQuiet_nil ?_
  intro _ hw'
  obtain ⟨nq, hw''⟩ := hw'
  subst hw''
  have J0 : Hid _ := I0.out.drewN nq
  have J1 : Hid _ := I1.out.drewN nq
  obtain ⟨w1, HW1⟩ : ∃ w1, Hid (w1 = w.drewN nq) := ⟨_, rfl⟩
  rw [← HW1.out] at J0 J1
  rw [← HW1.out]
  clear I0 I1
  go_wp2
  refine wp_region_quiet_lit (by kernel_rfl) (by kernel_rfl) ?_
  quiet_step (fail)
  quiet_step (fail)
  quiet_step (fail)
  quiet_step (fail)
  quiet_step (fail)
  quiet_step (fail)
  quiet_step (fail)
  quiet_step (fail)
  quiet_step (exact Calls.quiet_of (prog_number _ g o1 h1 (J1.out.drewN _)))
  quiet_step (fail)
  quiet_step (fail)
  quiet_step (fail)
  quiet_step (exact Calls.quiet_of (prog_number _ g o h0 (J0.out.drewN _)))
  quiet_step (fail)
  quiet_step (fail)
  quiet_step (fail)
  refine wpQuiet_nil ?_
  intro _ hw'
  obtain ⟨nq, hw''⟩ := hw'
  subst hw''
  go_wp2
  go_ret2
  exact ⟨rfl, _, by rw [HW1.out, World.drewN_drewN]⟩

end Go.Proofs.YtaokemapkgggoaaGreatDoor

namespace Go.Proofs.YtaokemapkgggoaaGreatDoor
open Go.RowKit

def goL : Code → Code
  | .seq a _ => a
  | c => c
def goR : Code → Code
  | .seq _ b => b
  | c => c
def goI : Code → Code
  | .loop c => c
  | .block _ c => c
  | .scope c => c
  | c => c
/-- the only way out is the one out of the block of that number -/
def onlyExit (k : Nat) (N : Act → World → Prop) : Exit → Act → World → Prop
  | .exit j, a, w => j = k ∧ N a w
  | _, _, _ => False
def goR4 (c : Code) : Code := goR (goR (goR (goR c)))
/-- the body of the function that tells a text's sum -/
noncomputable def sumCode : Code := Tryz.f14.body.getD .skip
/-- a round over one block of 64 bytes -/
noncomputable def sumTurn : Code := goI (goI (goR (goL (goR (goR (goR4 (goR4 sumCode)))))))
/-- a round of the loop that lays the 64 words -/
noncomputable def sumWord : Code := goI (goI (goR (goL (goR (goI (goL (goR sumTurn)))))))
/-- a round of the loop of 64 mixings -/
noncomputable def sumMix : Code := goI (goI (goR (goL (goR4 (goI (goL (goR sumTurn)))))))
/-- a round of the loop that adds -/
noncomputable def sumAdd : Code := goI (goI (goR (goR (goR4 (goI (goL (goR sumTurn)))))))
/-- a round of the loop that lays the bytes -/
noncomputable def sumOut : Code := goI (goI (goR (goL (goR4 (goR4 (goR4 sumCode))))))

theorem wrap8_id (n : Int) (h0 : 0 ≤ n) (h1 : n < 256) : IntKind.u8.wrap n = n := by
  simp only [IntKind.wrap, IntKind.bits, IntKind.signed]
  simp
  omega
theorem eightTo_take (n : Int) (i : Nat) (h : i < 8) : (eightTo n 8).take (i + 1) = (eightTo n 8).take i ++ [n / 2 ^ (56 - 8 * i) % 256] := by
  rw [List.take_succ_eq_append_getElem (by rw [eightTo_length]; exact h)]
  congr 2
  simp [eightTo, h]
theorem pow_step (i : Nat) (h : i < 8) : (72057594037927936 : Int) / 256 ^ i = 2 ^ (56 - 8 * i) := by
  match i, h with
  | 0, _ => rfl
  | 1, _ => rfl
  | 2, _ => rfl
  | 3, _ => rfl
  | 4, _ => rfl
  | 5, _ => rfl
  | 6, _ => rfl
  | 7, _ => rfl
theorem div_256 (i : Nat) : (72057594037927936 : Int) / 256 ^ i / 256 = 72057594037927936 / 256 ^ (i + 1) := by
  rw [Int.ediv_ediv_of_nonneg (Int.pow_nonneg (by omega)), Int.pow_succ]
theorem pow_bd8 (i : Nat) (h : i < 8) : 1 ≤ (2 : Int) ^ (56 - 8 * i) ∧ (2 : Int) ^ (56 - 8 * i) ≤ 72057594037927936 := by
  have h1 : (2 : Nat) ^ (56 - 8 * i) ≤ 2 ^ 56 := Nat.pow_le_pow_right (by omega) (by omega)
  have h2 : 0 < (2 : Nat) ^ (56 - 8 * i) := Nat.pow_pos (by omega)
  have e : ((2 ^ (56 - 8 * i) : Nat) : Int) = (2 : Int) ^ (56 - 8 * i) := by simp
  have h3 : (2 : Nat) ^ 56 = 72057594037927936 := by decide
  omega

theorem blk_byte {T : ByteArray} {tl : List UInt8} (h : Hid (T.data.toList = tl)) {a j : Nat} (ha : a + 64 ≤ T.size) (hj : j < 64) : ((T[a + j]'(by omega)).toNat : Int) = (blk 64 (tl.drop a)).getD j 0 := by
  have hsz : tl.length = T.size := by rw [← h.out, Array.length_toList]; rfl
  have hl : j < ((tl.drop a).take 64).length := by rw [List.length_take, List.length_drop]; omega
  have h1 : (blk 64 (tl.drop a)).getD j 0 = ((((tl.drop a).take 64)[j]'hl).toNat : Int) := by
    unfold blk List.getD
    rw [List.getElem?_append_left (by rw [bytesI, List.length_map]; exact hl), bytesI, List.getElem?_map, List.getElem?_eq_getElem hl]
    rfl
  rw [h1]
  congr 2
  rw [List.getElem_take, List.getElem_drop]
  have h2 := h.out
  subst h2
  rfl

end Go.Proofs.YtaokemapkgggoaaGreatDoor
