import Derived.Test.YtaokemapkgggoaaGreatDoorFd13
import Derived.Test.YtaokemapkgggoaaGreatDoorFd20
import Derived.Test.YtaokemapkgggoaaGreatDoorFd09
namespace Go.Proofs.YtaokemapkgggoaaGreatDoor
open Go.RowKit

theorem Dv.ok.put {d : Dv} (h : d.ok) (n : Nat) (q : ByteArray) (hq : q.size ≤ 20) : (d.k.put n q).fair := by
  have f := h.fair
  unfold Kep.put
  split
  · exact ⟨f.n0, f.n1, f.t0, f.t1, f.pin, by show q.size < _; omega, f.k1, f.k2, f.k3⟩
  · split
    · exact ⟨f.n0, f.n1, f.t0, f.t1, f.pin, f.k0, by show q.size < _; omega, f.k2, f.k3⟩
    · split
      · exact ⟨f.n0, f.n1, f.t0, f.t1, f.pin, f.k0, f.k1, by show q.size < _; omega, f.k3⟩
      · exact ⟨f.n0, f.n1, f.t0, f.t1, f.pin, f.k0, f.k1, f.k2, by show q.size < _; omega⟩

theorem key_cell {w : World} {g : Nat} {d : Dv} (h : DvAt w g d) (n : Nat) (hn : n < 4) : w.cell? ⟨g, 6 + n, none⟩ = some (.string (d.k.key n)) := by
  obtain ⟨-, -, -, -, -, -, c6, c7, c8, c9, -⟩ := h.c
  rcases (by omega : n = 0 ∨ n = 1 ∨ n = 2 ∨ n = 3) with rfl | rfl | rfl | rfl
  · exact c6
  · exact c7
  · exact c8
  · exact c9

set_option maxRecDepth 100000 in
set_option maxHeartbeats 1000000 in
theorem ref_slot_none4 (w : World) (g : Nat) (d : Dv) (p : ByteArray) (h : DvAt w g d) (hu : ¬ d.unl = false) (hb : ¬ (p.size = 0 ∨ 4 ≤ hd0 p)) (hp : p.size < 1000000) (hk : (d.k.key (hd0 p)).size = 0) :
    Calls Tryz.prog 82 #[.pointer (some ⟨g, 0, none⟩), .int .i64 4, .string p] w (Left g w (d.slot 4 p)) := by
  rw [slot_std hu hb, if_neg (fun e => absurd e.1 (by decide)), if_neg (fun e => absurd e.1 (by decide)), if_neg (by decide), if_neg (fun e => absurd e.1 (by decide)), if_pos hk]
  obtain ⟨c0, c1, c2, c3, c4, c5, c6, c7, c8, c9, c10, c11, -⟩ := h.c
  rw [show d.unl = true by simpa using hu] at c11
  have h0 : ¬ p.size = 0 := fun e => hb (.inl e)
  have hpos : 0 < p.size := by omega
  have hby := byte_at hpos
  have hbd := getD_isB (bytesI_B p.data.toList) 0
  have h4 : ¬ 4 ≤ hd0 p := fun e => hb (.inr e)
  have hne := toList_ne_nil h0
  obtain ⟨b0, b1⟩ := hbd
  have hx : ((hd0 p : Nat) : Int) = (bytesI p.data.toList).getD 0 0 := by unfold hd0; omega
  rw [← hx] at hby b0 b1
  clear hx h0 hb
  have hps : (0 : Int) < p.size := by omega
  have hps1 : (1 : Int) ≤ p.size := by omega
  have h4' : ¬ (4 : Int) ≤ (hd0 p : Nat) := by omega
  have hr1 : p.extract 1 p.size = rest1 p := rfl
  have hrs : (rest1 p).size < 1000000 := by unfold rest1; rw [ByteArray.size_extract]; omega
  generalize hd0 p = n at *
  generalize rest1 p = q at *
  have hck := key_cell h n (by omega)
  rw [empty_of_size hk] at hck
  have hn0 : (0 : Int) ≤ (n : Nat) := by omega
  have hn4 : ((n : Nat) : Int) < 4 := by omega
  go_enter Tryz.func82, Tryz.ntmps82
  go_wp2_with (first | (go_at_call 83; refine (ref_worn w g _ h).mono ?_; rintro _ w9 ⟨rfl, e9⟩; rw [e9]; clear e9 w9))
  go_ret2
  exact ⟨rfl, h, World.grownBy.refl _ _⟩

set_option maxRecDepth 100000 in
set_option maxHeartbeats 1000000 in
theorem ref_slot_none5 (w : World) (g : Nat) (d : Dv) (p : ByteArray) (h : DvAt w g d) (hu : ¬ d.unl = false) (hb : ¬ (p.size = 0 ∨ 4 ≤ hd0 p)) (hp : p.size < 1000000) (hl : (rest1 p).size = 8) (hk : (d.k.key (hd0 p)).size = 0) :
    Calls Tryz.prog 82 #[.pointer (some ⟨g, 0, none⟩), .int .i64 5, .string p] w (Left g w (d.slot 5 p)) := by
  rw [slot_std hu hb, if_neg (fun e => absurd e.1 (by decide)), if_neg (fun e => absurd e.1 (by decide)), if_neg (by decide), if_neg (fun e => e.2 hl), if_pos hk]
  obtain ⟨c0, c1, c2, c3, c4, c5, c6, c7, c8, c9, c10, c11, -⟩ := h.c
  rw [show d.unl = true by simpa using hu] at c11
  have h0 : ¬ p.size = 0 := fun e => hb (.inl e)
  have hpos : 0 < p.size := by omega
  have hby := byte_at hpos
  have hbd := getD_isB (bytesI_B p.data.toList) 0
  have h4 : ¬ 4 ≤ hd0 p := fun e => hb (.inr e)
  have hne := toList_ne_nil h0
  obtain ⟨b0, b1⟩ := hbd
  have hx : ((hd0 p : Nat) : Int) = (bytesI p.data.toList).getD 0 0 := by unfold hd0; omega
  rw [← hx] at hby b0 b1
  clear hx h0 hb
  have hps : (0 : Int) < p.size := by omega
  have hps1 : (1 : Int) ≤ p.size := by omega
  have h4' : ¬ (4 : Int) ≤ (hd0 p : Nat) := by omega
  have hr1 : p.extract 1 p.size = rest1 p := rfl
  have hrs : (rest1 p).size < 1000000 := by unfold rest1; rw [ByteArray.size_extract]; omega
  generalize hd0 p = n at *
  generalize rest1 p = q at *
  have hck := key_cell h n (by omega)
  rw [empty_of_size hk] at hck
  have hl5 : (q.size : Int) = 8 := by omega
  have hn0 : (0 : Int) ≤ (n : Nat) := by omega
  have hn4 : ((n : Nat) : Int) < 4 := by omega
  go_enter Tryz.func82, Tryz.ntmps82
  go_wp2_with (first | (go_at_call 83; refine (ref_worn w g _ h).mono ?_; rintro _ w9 ⟨rfl, e9⟩; rw [e9]; clear e9 w9))
  go_ret2
  exact ⟨rfl, h, World.grownBy.refl _ _⟩

theorem keep_slot {w W wx : World} {g n sm : Nat} {kb : ByteArray} (hg : g < w.heap.size) (hb : Below W.heap.size W wx)
    (h : W.cell? ⟨g, 0, none⟩ = some (.pointer (some ⟨sm, 0, none⟩)) ∧ W.cell? ⟨g, 6 + n, none⟩ = some (.string kb) ∧ Summ W sm ∧ Below w.heap.size w W) :
    wx.cell? ⟨g, 0, none⟩ = some (.pointer (some ⟨sm, 0, none⟩)) ∧ wx.cell? ⟨g, 6 + n, none⟩ = some (.string kb) ∧ Summ wx sm ∧ Below w.heap.size w wx :=
  have hgW : g < W.heap.size := Nat.lt_of_lt_of_le hg h.2.2.2.size
  ⟨(hb.cell (p := ⟨g, 0, none⟩) hgW).trans h.1, (hb.cell (p := ⟨g, 6 + n, none⟩) hgW).trans h.2.1, h.2.2.1.below hb (Nat.le_refl _), h.2.2.2.trans (hb.mono h.2.2.2.size)⟩

set_option maxRecDepth 100000 in
set_option maxHeartbeats 1000000 in
theorem ref_slot_told4 (hsum : SumSaid sumSpecRef) (w : World) (g : Nat) (d : Dv) (p : ByteArray) (h : DvAt w g d) (hS : Summ w d.sm) (hu : ¬ d.unl = false) (hb : ¬ (p.size = 0 ∨ 4 ≤ hd0 p)) (hp : p.size < 80000) (hk : ¬ (d.k.key (hd0 p)).size = 0) :
    Calls Tryz.prog 82 #[.pointer (some ⟨g, 0, none⟩), .int .i64 4, .string p] w (Left g w (d.slot 4 p)) := by
  rw [slot_std hu hb, if_neg (fun e => absurd e.1 (by decide)), if_neg (fun e => absurd e.1 (by decide)), if_neg (by decide), if_neg (fun e => absurd e.1 (by decide)), if_neg hk, if_neg (by decide)]
  obtain ⟨c0, c1, c2, c3, c4, c5, c6, c7, c8, c9, c10, c11, -⟩ := h.c
  rw [show d.unl = true by simpa using hu] at c11
  have h0 : ¬ p.size = 0 := fun e => hb (.inl e)
  have hpos : 0 < p.size := by omega
  have hby := byte_at hpos
  have hbd := getD_isB (bytesI_B p.data.toList) 0
  have h4 : ¬ 4 ≤ hd0 p := fun e => hb (.inr e)
  have hne := toList_ne_nil h0
  obtain ⟨b0, b1⟩ := hbd
  have hx : ((hd0 p : Nat) : Int) = (bytesI p.data.toList).getD 0 0 := by unfold hd0; omega
  rw [← hx] at hby b0 b1
  clear hx h0 hb
  have hps : (0 : Int) < p.size := by omega
  have hps1 : (1 : Int) ≤ p.size := by omega
  have h4' : ¬ (4 : Int) ≤ (hd0 p : Nat) := by omega
  have hr1 : p.extract 1 p.size = rest1 p := rfl
  have hrs : (rest1 p).size < 80000 := by unfold rest1; rw [ByteArray.size_extract]; omega
  generalize hd0 p = n at *
  generalize rest1 p = q at *
  have hck := key_cell h n (by omega)
  have hke := toList_ne_nil hk
  have hn0 : (0 : Int) ≤ (n : Nat) := by omega
  have hn4 : ((n : Nat) : Int) < 4 := by omega
  generalize d.k.key n = kb at *
  have hlt := h.lt
  go_enter Tryz.func82, Tryz.ntmps82
  go_wp2_with (first | (go_at_call 83; refine (ref_worn w g _ h).mono ?_; rintro _ w9 ⟨rfl, e9⟩; rw [e9]; clear e9 w9))
  have hS0 : w.drew.cell? ⟨g, 0, none⟩ = some (.pointer (some ⟨d.sm, 0, none⟩)) ∧ w.drew.cell? ⟨g, 6 + n, none⟩ = some (.string kb) ∧ Summ w.drew d.sm ∧ Below w.heap.size w w.drew := ⟨c0, hck, hS, (Below.refl _ _).drew⟩
  go_region_held3 (fun w' => w'.cell? ⟨g, 0, none⟩ = some (.pointer (some ⟨d.sm, 0, none⟩)) ∧ w'.cell? ⟨g, 6 + n, none⟩ = some (.string kb) ∧ Summ w' d.sm ∧ Below w.heap.size w w') (first | exact hS0 | exact keep_slot hlt hbx (by assumption)) (first | (go_at_call 17; refine (ref_seal hsum sumRef_length kb q d.sm _ ?_ (by omega)).mono ?_; (go_split_ands; assumption); rintro _ wx ⟨rfl, hbx⟩))
  go_wp2
  go_ret2
  have hB := (keep_slot hlt hbx hS0).2.2.2
  exact ⟨rfl, h.below hB hlt, grown_of_below _ hB⟩

set_option maxRecDepth 100000 in
set_option maxHeartbeats 1000000 in
theorem ref_slot_told5 (hsum : SumSaid sumSpecRef) (w : World) (g : Nat) (d : Dv) (p : ByteArray) (h : DvAt w g d) (hS : Summ w d.sm) (hu : ¬ d.unl = false) (hb : ¬ (p.size = 0 ∨ 4 ≤ hd0 p)) (hp : p.size < 80000) (hl : (rest1 p).size = 8) (hk : ¬ (d.k.key (hd0 p)).size = 0) :
    Calls Tryz.prog 82 #[.pointer (some ⟨g, 0, none⟩), .int .i64 5, .string p] w (Left g w (d.slot 5 p)) := by
  rw [slot_std hu hb, if_neg (fun e => absurd e.1 (by decide)), if_neg (fun e => absurd e.1 (by decide)), if_neg (by decide), if_neg (fun e => e.2 hl), if_neg hk, if_pos rfl]
  obtain ⟨c0, c1, c2, c3, c4, c5, c6, c7, c8, c9, c10, c11, -⟩ := h.c
  rw [show d.unl = true by simpa using hu] at c11
  have h0 : ¬ p.size = 0 := fun e => hb (.inl e)
  have hpos : 0 < p.size := by omega
  have hby := byte_at hpos
  have hbd := getD_isB (bytesI_B p.data.toList) 0
  have h4 : ¬ 4 ≤ hd0 p := fun e => hb (.inr e)
  have hne := toList_ne_nil h0
  obtain ⟨b0, b1⟩ := hbd
  have hx : ((hd0 p : Nat) : Int) = (bytesI p.data.toList).getD 0 0 := by unfold hd0; omega
  rw [← hx] at hby b0 b1
  clear hx h0 hb
  have hps : (0 : Int) < p.size := by omega
  have hps1 : (1 : Int) ≤ p.size := by omega
  have h4' : ¬ (4 : Int) ≤ (hd0 p : Nat) := by omega
  have hr1 : p.extract 1 p.size = rest1 p := rfl
  have hrs : (rest1 p).size < 80000 := by unfold rest1; rw [ByteArray.size_extract]; omega
  generalize hd0 p = n at *
  generalize rest1 p = q at *
  have hck := key_cell h n (by omega)
  have hke := toList_ne_nil hk
  have hl5 : (q.size : Int) = 8 := by omega
  have hn0 : (0 : Int) ≤ (n : Nat) := by omega
  have hn4 : ((n : Nat) : Int) < 4 := by omega
  generalize d.k.key n = kb at *
  have hlt := h.lt
  go_enter Tryz.func82, Tryz.ntmps82
  go_wp2_with (first | (go_at_call 83; refine (ref_worn w g _ h).mono ?_; rintro _ w9 ⟨rfl, e9⟩; rw [e9]; clear e9 w9))
  have hS0 : w.drew.cell? ⟨g, 0, none⟩ = some (.pointer (some ⟨d.sm, 0, none⟩)) ∧ w.drew.cell? ⟨g, 6 + n, none⟩ = some (.string kb) ∧ Summ w.drew d.sm ∧ Below w.heap.size w w.drew := ⟨c0, hck, hS, (Below.refl _ _).drew⟩
  go_region_held3 (fun w' => w'.cell? ⟨g, 0, none⟩ = some (.pointer (some ⟨d.sm, 0, none⟩)) ∧ w'.cell? ⟨g, 6 + n, none⟩ = some (.string kb) ∧ Summ w' d.sm ∧ Below w.heap.size w w') (first | exact hS0 | exact keep_slot hlt hbx (by assumption)) (first | (go_at_call 19; refine (ref_code hsum sumRef_length sumRef_B kb q d.sm _ ?_ (by omega)).mono ?_; (go_split_ands; assumption); rintro _ wx ⟨rfl, hbx⟩))
  go_wp2
  go_ret2
  have hB := (keep_slot hlt hbx hS0).2.2.2
  exact ⟨rfl, h.below hB hlt, grown_of_below _ hB⟩
end Go.Proofs.YtaokemapkgggoaaGreatDoor

namespace Go.Proofs.YtaokemapkgggoaaGreatDoor
open Go.RowKit

/-- a bit for each of the first i slots that has a key -/
def Kep.bits (k : Kep) : Nat → Int
  | 0 => 0
  | i + 1 => k.bits i + (if (k.key i).size = 0 then 0 else 2 ^ i)
def Kep.withPin (k : Kep) (p : ByteArray) : Kep := { k with pin := p }

/-- a command -/
def Dv.command (d : Dv) (kind : Int) (p : ByteArray) : Dv × Int × List UInt8 :=
  if kind = 1 then d.unlock p
  else if kind = 2 then (if p.size = 0 then (d.lock, 0, []) else (d, 4, []))
  else if kind = 7 then (if p.size = 0 then (d, 0, [b8 (if d.unl then 1 else 0), b8 d.k.tries, b8 (d.k.bits 4)]) else (d, 4, []))
  else if kind = 3 ∨ kind = 4 ∨ kind = 5 then d.slot kind p
  else if kind = 6 then
    (if d.unl = false then (d, 2, []) else if p.size < 1 ∨ 8 < p.size then (d, 4, []) else if 4294967295 ≤ d.k.num then (d, 7, []) else (d.wrote (d.k.withPin p), 0, []))
  else (d, 6, [])

theorem Kep.bits_bd (k : Kep) : ∀ i, i ≤ 4 → 0 ≤ k.bits i ∧ k.bits i < 2 ^ i
  | 0, _ => by simp [Kep.bits]
  | i + 1, h => by
    have := Kep.bits_bd k i (by omega)
    simp only [Kep.bits]
    have e : (2 : Int) ^ (i + 1) = 2 ^ i + 2 ^ i := by rw [Int.pow_succ]; omega
    split <;> omega

set_option maxRecDepth 100000 in
set_option maxHeartbeats 1000000 in
theorem ref_command2 (w : World) (g : Nat) (d : Dv) (p : ByteArray) (h : DvAt w g d) :
    Calls Tryz.prog 57 #[.pointer (some ⟨g, 0, none⟩), .int .i64 2, .string p] w (Left g w (d.command 2 p)) := by
  obtain ⟨c0, c1, c2, c3, c4, c5, c6, c7, c8, c9, c10, c11, -⟩ := h.c
  have f11 := h.frozen 11
  rw [show d.command 2 p = (if p.size = 0 then (d.lock, 0, []) else (d, 4, [])) by unfold Dv.command; rw [if_neg (by omega), if_pos rfl]]
  by_cases h0 : p.size = 0
  · rw [if_pos h0]
    obtain rfl := empty_of_size h0
    go_enter Tryz.func57, Tryz.ntmps57
    go_wp2
    go_ret2
    exact ⟨rfl, Row.setCell h 11 (.bool false), grown_set (World.grownBy.refl _ _) 11 _⟩
  · rw [if_neg h0]
    have hne := toList_ne_nil h0
    go_enter Tryz.func57, Tryz.ntmps57
    go_wp2
    go_ret2
    exact ⟨rfl, h, World.grownBy.refl _ _⟩

set_option maxRecDepth 100000 in
set_option maxHeartbeats 1000000 in
theorem ref_command_none (w : World) (g : Nat) (d : Dv) (kind : Int) (p : ByteArray) (h : DvAt w g d) (hk : kind < 1 ∨ 7 < kind) :
    Calls Tryz.prog 57 #[.pointer (some ⟨g, 0, none⟩), .int .i64 kind, .string p] w (Left g w (d.command kind p)) := by
  rw [show d.command kind p = (d, 6, []) by unfold Dv.command; rw [if_neg (by omega), if_neg (by omega), if_neg (by omega), if_neg (by omega), if_neg (by omega)]]
  have k1 : ¬ kind = 1 := by omega
  have k2 : ¬ kind = 2 := by omega
  have k3 : ¬ kind = 3 := by omega
  have k4 : ¬ kind = 4 := by omega
  have k5 : ¬ kind = 5 := by omega
  have k6 : ¬ kind = 6 := by omega
  have k7 : ¬ kind = 7 := by omega
  go_enter Tryz.func57, Tryz.ntmps57
  go_wp2
  go_ret2
  exact ⟨rfl, h, World.grownBy.refl _ _⟩

end Go.Proofs.YtaokemapkgggoaaGreatDoor

namespace Go.Proofs.YtaokemapkgggoaaGreatDoor
open Go.RowKit

/-- what stays as it was -/
structure Dv.same (d e : Dv) : Prop where
  sm : e.sm = d.sm
  inn : e.inn = d.inn
theorem Dv.same.refl (d : Dv) : d.same d := ⟨rfl, rfl⟩
theorem Dv.wrote_ok {d : Dv} {k : Kep} (h : d.ok) (hw : ¬ 4294967295 ≤ d.k.num) (t0 : 0 ≤ k.tries) (t1 : k.tries ≤ 5) (p0 : 1 ≤ k.pin.size) (p1 : k.pin.size ≤ 8) (k0 : k.k0.size ≤ 20) (k1 : k.k1.size ≤ 20) (k2 : k.k2.size ≤ 20) (k3 : k.k3.size ≤ 20) : (d.wrote k).ok := by
  have n0 := h.n0
  have wh := h.wh
  refine ⟨?_, ?_, t0, t1, p0, p1, k0, k1, k2, k3, ?_, h.off, ?_⟩
  · show 1 ≤ d.k.num + 1; omega
  · show d.k.num + 1 ≤ _; omega
  · show 1 - d.wh = 0 ∨ 1 - d.wh = 1; omega
  · show (if d.cut < 0 then d.cut else d.cut - 101) < 0
    rw [if_pos h.cut]; exact h.cut
theorem Dv.lock_ok {d : Dv} (h : d.ok) : d.lock.ok := ⟨h.n0, h.n1, h.t0, h.t1, h.p0, h.p1, h.k0, h.k1, h.k2, h.k3, h.wh, h.off, h.cut⟩
theorem Dv.open_ok {d : Dv} (h : d.ok) : d.open.ok := ⟨h.n0, h.n1, h.t0, h.t1, h.p0, h.p1, h.k0, h.k1, h.k2, h.k3, h.wh, h.off, h.cut⟩
theorem Dv.unlock_ok {d : Dv} (h : d.ok) (p : ByteArray) : (d.unlock p).1.ok ∧ d.same (d.unlock p).1 := by
  unfold Dv.unlock
  split
  · exact ⟨h, .refl d⟩
  split
  · exact ⟨h, .refl d⟩
  split
  · exact ⟨h, .refl d⟩
  rename_i ht hw
  have t0 := h.t0
  have t1 := h.t1
  have h1 : (d.wrote d.k.less).ok := Dv.wrote_ok h hw (by show 0 ≤ d.k.tries - 1; omega) (by show d.k.tries - 1 ≤ 5; omega) h.p0 h.p1 h.k0 h.k1 h.k2 h.k3
  split
  · dsimp only
    split
    · rename_i hc
      exact ⟨Dv.wrote_ok (Dv.lock_ok h1) hc.2 (by show 0 ≤ d.k.tries - 1; omega) (by show d.k.tries - 1 ≤ 5; omega) h.p0 h.p1 (Nat.zero_le _) (Nat.zero_le _) (Nat.zero_le _) (Nat.zero_le _), ⟨rfl, rfl⟩⟩
    · exact ⟨Dv.lock_ok h1, ⟨rfl, rfl⟩⟩
  split
  · exact ⟨Dv.lock_ok h1, ⟨rfl, rfl⟩⟩
  · rename_i hw2
    exact ⟨Dv.open_ok (Dv.wrote_ok h1 hw2 (by show (0 : Int) ≤ 5; omega) (by show (5 : Int) ≤ 5; omega) h.p0 h.p1 h.k0 h.k1 h.k2 h.k3), ⟨rfl, rfl⟩⟩
theorem Dv.slot_ok {d : Dv} (h : d.ok) (kind : Int) (p : ByteArray) : (d.slot kind p).1.ok ∧ d.same (d.slot kind p).1 := by
  unfold Dv.slot
  repeat' split
  all_goals first
    | exact ⟨h, .refl d⟩
    | skip
  rename_i hl hw _
  have hq : ¬ 20 < (rest1 p).size := fun e => hl ⟨by assumption, e⟩
  have hw' : ¬ 4294967295 ≤ d.k.num := fun e => hw ⟨by assumption, e⟩
  have hq' : (rest1 p).size ≤ 20 := by omega
  refine ⟨?_, ⟨rfl, rfl⟩⟩
  unfold Kep.put
  repeat' split
  · exact Dv.wrote_ok h hw' h.t0 h.t1 h.p0 h.p1 hq' h.k1 h.k2 h.k3
  · exact Dv.wrote_ok h hw' h.t0 h.t1 h.p0 h.p1 h.k0 hq' h.k2 h.k3
  · exact Dv.wrote_ok h hw' h.t0 h.t1 h.p0 h.p1 h.k0 h.k1 hq' h.k3
  · exact Dv.wrote_ok h hw' h.t0 h.t1 h.p0 h.p1 h.k0 h.k1 h.k2 hq'
theorem Dv.command_ok {d : Dv} (h : d.ok) (kind : Int) (p : ByteArray) : (d.command kind p).1.ok ∧ d.same (d.command kind p).1 := by
  unfold Dv.command
  split
  · exact Dv.unlock_ok h p
  split
  · split
    · exact ⟨Dv.lock_ok h, ⟨rfl, rfl⟩⟩
    · exact ⟨h, .refl d⟩
  split
  · split <;> exact ⟨h, .refl d⟩
  split
  · exact Dv.slot_ok h kind p
  split
  · split
    · exact ⟨h, .refl d⟩
    split
    · exact ⟨h, .refl d⟩
    split
    · exact ⟨h, .refl d⟩
    · rename_i hp hw
      exact ⟨Dv.wrote_ok (k := d.k.withPin p) h hw h.t0 h.t1 (by show 1 ≤ p.size; omega) (by show p.size ≤ 8; omega) h.k0 h.k1 h.k2 h.k3, ⟨rfl, rfl⟩⟩
  · exact ⟨h, .refl d⟩
end Go.Proofs.YtaokemapkgggoaaGreatDoor

namespace Go.Proofs.YtaokemapkgggoaaGreatDoor
open Go.RowKit

/-- bytes ahead of A5 are passed over -/
def skip (l : List UInt8) : List UInt8 := l.dropWhile (fun b => b != 165)
theorem skip_at : ∀ (l : List UInt8) (n : Nat), n ≤ l.length → (∀ j, j < n → (bytesI l).getD j 0 ≠ 165) → (n = l.length ∨ (bytesI l).getD n 0 = 165) → skip l = l.drop n
  | [], n, h, _, _ => by simp [skip]
  | b :: l, 0, _, _, h => by
    rcases h with h | h
    · simp at h
    · have hb : b = 165 := by
        simp only [bytesI, List.map_cons, List.getD_cons_zero] at h
        exact UInt8.toNat_inj.1 (by simpa using (by omega : b.toNat = 165))
      subst hb
      simp [skip]
  | b :: l, n + 1, hn, ha, h => by
    have hb : b ≠ 165 := by
      intro e
      have := ha 0 (by omega)
      rw [e] at this
      exact this rfl
    have ih := skip_at l n (by simpa using hn) (fun j hj => by have := ha (j + 1) (by omega); simpa [bytesI] using this) (by
      rcases h with h | h
      · left; simpa using h
      · right; simpa [bytesI] using h)
    rw [List.drop_succ_cons, ← ih]
    unfold skip
    rw [List.dropWhile_cons, if_pos (by simpa using hb)]
theorem skip_length (l : List UInt8) : (skip l).length ≤ l.length := by
  unfold skip
  exact (List.dropWhile_suffix _).length_le

/-- the length that a frame tells -/
def fLen (l : List UInt8) : Nat := ((bytesI l).getD 1 0).toNat
def fWait (l : List UInt8) : Bool := decide (l.length < 2 ∨ (fLen l ≤ 48 ∧ l.length < fLen l + 4))
def fBad (l : List UInt8) : Bool := decide (48 < fLen l ∨ ¬ (1 + sumB ((l.drop 1).take (fLen l + 2))) % 256 = (bytesI l).getD (fLen l + 3) 0)
def Dv.withIn (d : Dv) (l : List UInt8) : Dv := { d with inn := str l }

/-- what is answered to some bytes, and the device behind it -/
def feedF : Nat → Dv → List UInt8 → List UInt8 × Dv
  | 0, d, l => ([], d.withIn l)
  | n + 1, d, l =>
    if fWait (skip l) = true then ([], d.withIn (skip l))
    else if fBad (skip l) = true then
      (told 1 [] ++ (feedF n (d.withIn ((skip l).drop 1)) ((skip l).drop 1)).1, (feedF n (d.withIn ((skip l).drop 1)) ((skip l).drop 1)).2)
    else
      let c := (d.withIn ((skip l).drop (fLen (skip l) + 4))).command ((bytesI (skip l)).getD 2 0) (str (((skip l).drop 3).take (fLen (skip l))))
      (told c.2.1 c.2.2 ++ (feedF n c.1 ((skip l).drop (fLen (skip l) + 4))).1, (feedF n c.1 ((skip l).drop (fLen (skip l) + 4))).2)

/-- one round, by the bytes behind those that are passed over -/
theorem feedF_wait {n : Nat} {d : Dv} {l s : List UInt8} (hs : skip l = s) (h : s.length < 2 ∨ (fLen s ≤ 48 ∧ s.length < fLen s + 4)) : feedF (n + 1) d l = ([], d.withIn s) := by
  unfold feedF
  rw [hs, if_pos (by simpa [fWait] using h)]
theorem feedF_bad {n : Nat} {d : Dv} {l s : List UInt8} (hs : skip l = s) (h : ¬ (s.length < 2 ∨ (fLen s ≤ 48 ∧ s.length < fLen s + 4))) (hb : 48 < fLen s ∨ ¬ (1 + sumB ((s.drop 1).take (fLen s + 2))) % 256 = (bytesI s).getD (fLen s + 3) 0) :
    feedF (n + 1) d l = (told 1 [] ++ (feedF n (d.withIn (s.drop 1)) (s.drop 1)).1, (feedF n (d.withIn (s.drop 1)) (s.drop 1)).2) := by
  rw [feedF, hs, if_neg (by simpa only [fWait, decide_eq_true_eq] using h), if_pos (by simpa only [fBad, decide_eq_true_eq] using hb)]
theorem feedF_cmd {n : Nat} {d : Dv} {l s : List UInt8} {c : Dv × Int × List UInt8} (hs : skip l = s) (h : ¬ (s.length < 2 ∨ (fLen s ≤ 48 ∧ s.length < fLen s + 4))) (hb : ¬ (48 < fLen s ∨ ¬ (1 + sumB ((s.drop 1).take (fLen s + 2))) % 256 = (bytesI s).getD (fLen s + 3) 0))
    (hc : c = (d.withIn (s.drop (fLen s + 4))).command ((bytesI s).getD 2 0) (str ((s.drop 3).take (fLen s)))) :
    feedF (n + 1) d l = (told c.2.1 c.2.2 ++ (feedF n c.1 (s.drop (fLen s + 4))).1, (feedF n c.1 (s.drop (fLen s + 4))).2) := by
  rw [feedF, hs, if_neg (by simpa only [fWait, decide_eq_true_eq] using h), if_neg (by simpa only [fBad, decide_eq_true_eq] using hb), hc]

theorem told_length (st : Int) (p : List UInt8) : (told st p).length = p.length + 4 := by simp [told]
theorem Dv.unlock_len (d : Dv) (p : ByteArray) : (d.unlock p).2.2.length ≤ 32 ∧ 0 ≤ (d.unlock p).2.1 ∧ (d.unlock p).2.1 < 256 := by
  unfold Dv.unlock
  repeat' split
  all_goals (simp <;> omega)
theorem digL_len (x : Int) (n : Nat) : (digL x n).length = n := digL_length x n
theorem Dv.slot_len (d : Dv) (kind : Int) (p : ByteArray) : (d.slot kind p).2.2.length ≤ 32 ∧ 0 ≤ (d.slot kind p).2.1 ∧ (d.slot kind p).2.1 < 256 := by
  unfold Dv.slot
  repeat' split
  all_goals refine ⟨?_, by simp, by simp⟩
  all_goals first
    | (rw [toBytes_length, digL_len]; omega)
    | (rw [toBytes_length]; unfold refSeal; rw [sumRef_length]; omega)
    | simp
theorem Dv.command_len (d : Dv) (kind : Int) (p : ByteArray) : (d.command kind p).2.2.length ≤ 32 ∧ 0 ≤ (d.command kind p).2.1 ∧ (d.command kind p).2.1 < 256 := by
  unfold Dv.command
  split
  · exact d.unlock_len p
  split
  · split <;> simp
  split
  · split <;> simp
  split
  · exact d.slot_len kind p
  split
  · repeat' split
    all_goals simp
  · simp
end Go.Proofs.YtaokemapkgggoaaGreatDoor

namespace Go.Proofs.YtaokemapkgggoaaGreatDoor
open Go.RowKit

theorem ret_ib {a b : Int} {p q : Bool} (h : a = b) (k : p = q) : Ending.returned (.tuple #[.int .i64 a, .bool p]) = .returned (.tuple #[.int .i64 b, .bool q]) := by rw [h, k]
theorem ne_dec (y z : Int) : (y != z) = decide (¬ z = y) := by
  by_cases e : z = y
  · simp [e]
  · have e' : ¬ y = z := fun h => e h.symm
    simp [e, e']
theorem extL2 (b : ByteArray) (i j : Nat) : (b.extract i j).data.toList = (b.data.toList.drop i).take (j - i) := by
  rw [ByteArray.data_extract, Array.toList_extract, List.extract_eq_take_drop]

set_option maxRecDepth 100000 in
set_option maxHeartbeats 1000000 in
theorem prog_frameEnd_short (w : World) (s : ByteArray) (h : s.size < 2) :
    Calls Tryz.prog 75 #[.string s] w fun r w' => r = .returned (.tuple #[.int .i64 0, .bool false]) ∧ w' = w := by
  have h' : (s.size : Int) ≤ 1 := by omega
  go_enter Tryz.func75, Tryz.ntmps75
  go_wp2
  go_ret2
  exact ⟨rfl, rfl⟩

set_option maxRecDepth 100000 in
set_option maxHeartbeats 1000000 in
theorem prog_frameEnd_long (w : World) (s : ByteArray) (h : ¬ s.size < 2) (h48 : 48 < fLen s.data.toList) :
    Calls Tryz.prog 75 #[.string s] w fun r w' => r = .returned (.tuple #[.int .i64 0, .bool true]) ∧ w' = w := by
  have h' : ¬ (s.size : Int) ≤ 1 := by omega
  have hby1 := byte_at (s := s) (i := 1) (by omega)
  have hbd1 := getD_isB (bytesI_B s.data.toList) 1
  have HFL : Hid (((fLen s.data.toList : Nat) : Int) = (bytesI s.data.toList).getD 1 0) := by show _ = _; unfold fLen; omega
  rw [← HFL.out] at hby1 hbd1
  obtain ⟨hn0, hn1⟩ := hbd1
  generalize fLen s.data.toList = fl at *
  have h1s : (1 : Int) < s.size := by omega
  have h48' : (48 : Int) < fl := by omega
  go_enter Tryz.func75, Tryz.ntmps75
  go_wp2
  go_ret2
  exact ⟨rfl, rfl⟩

set_option maxRecDepth 100000 in
set_option maxHeartbeats 1000000 in
theorem prog_frameEnd_wait (w : World) (s : ByteArray) (h : ¬ s.size < 2) (h48 : fLen s.data.toList ≤ 48) (hw : s.size < fLen s.data.toList + 4) :
    Calls Tryz.prog 75 #[.string s] w fun r w' => r = .returned (.tuple #[.int .i64 0, .bool false]) ∧ w' = w := by
  have h' : ¬ (s.size : Int) ≤ 1 := by omega
  have hby1 := byte_at (s := s) (i := 1) (by omega)
  have hbd1 := getD_isB (bytesI_B s.data.toList) 1
  have HFL : Hid (((fLen s.data.toList : Nat) : Int) = (bytesI s.data.toList).getD 1 0) := by show _ = _; unfold fLen; omega
  rw [← HFL.out] at hby1 hbd1
  obtain ⟨hn0, hn1⟩ := hbd1
  generalize fLen s.data.toList = fl at *
  have h1s : (1 : Int) < s.size := by omega
  have h48' : ¬ (48 : Int) < fl := by omega
  have hw' : (s.size : Int) < 4 + (fl : Int) := by omega
  go_enter Tryz.func75, Tryz.ntmps75
  go_wp2
  go_ret2
  exact ⟨rfl, rfl⟩

set_option maxRecDepth 100000 in
set_option maxHeartbeats 1000000 in
theorem prog_frameEnd_whole (w : World) (s : ByteArray) (h : ¬ s.size < 2) (h48 : fLen s.data.toList ≤ 48) (hw : ¬ s.size < fLen s.data.toList + 4) :
    Calls Tryz.prog 75 #[.string s] w fun r w' => r = .returned (.tuple #[.int .i64 ((fLen s.data.toList : Int) + 4), .bool (decide (¬ (1 + sumB ((s.data.toList.drop 1).take (fLen s.data.toList + 2))) % 256 = (bytesI s.data.toList).getD (fLen s.data.toList + 3) 0))]) ∧ ∃ n, w' = w.drewN n := by
  have h' : ¬ (s.size : Int) ≤ 1 := by omega
  have hby1 := byte_at (s := s) (i := 1) (by omega)
  have hbd1 := getD_isB (bytesI_B s.data.toList) 1
  have HFL : Hid (((fLen s.data.toList : Nat) : Int) = (bytesI s.data.toList).getD 1 0) := by show _ = _; unfold fLen; omega
  rw [← HFL.out] at hby1 hbd1
  clear HFL
  obtain ⟨hn0, hn1⟩ := hbd1
  obtain ⟨fl, HFLN⟩ : ∃ fl, Hid (fl = fLen s.data.toList) := ⟨_, rfl⟩
  rw [← HFLN.out] at hby1 hn0 hn1 h48 hw
  rw [← HFLN.out]
  have hby3 := byte_at (s := s) (i := fl + 3) (by omega)
  obtain ⟨y, HY⟩ : ∃ y, Hid (y = (bytesI s.data.toList).getD (fl + 3) 0) := ⟨_, rfl⟩
  rw [← HY.out] at hby3
  rw [← HY.out]
  obtain ⟨q, HQ⟩ : ∃ q, Hid (q = s.extract 1 (fl + 3)) := ⟨_, rfl⟩
  have hql : Hid (q.data.toList = (s.data.toList.drop 1).take (fl + 2)) := by show _ = _; rw [HQ.out, extL2]; rfl
  have hqs : q.size ≤ 100 := by rw [HQ.out, ByteArray.size_extract]; omega
  have hqe : s.extract 1 (fl + 3) = q := HQ.out.symm
  clear HQ
  rw [← hql.out]
  obtain ⟨cv, HCV⟩ : ∃ cv, Hid (cv = (1 + sumB q.data.toList) % 256) := ⟨_, rfl⟩
  rw [← HCV.out]
  have h1s : (1 : Int) < s.size := by omega
  have h48' : ¬ (48 : Int) < fl := by omega
  have hw' : ¬ (s.size : Int) < 4 + (fl : Int) := by omega
  have e1 : IntKind.i64.wrap (4 + (fl : Int) - 1) = (fl : Int) + 3 := by rw [wrap_id _ (by omega) (by omega)]; omega
  have e2 : ((fl : Int) + 3).toNat = fl + 3 := by omega
  have e3 : (fl : Int) + 3 < s.size := by omega
  have e4 : (0 : Int) ≤ (fl : Int) + 3 := by omega
  have e5 : (fl : Int) + 3 ≤ s.size := by omega
  have e6 : (1 : Int) ≤ (fl : Int) + 3 := by omega
  go_enter Tryz.func75, Tryz.ntmps75
  go_wp2
  go_quiet ((go_at_call 91; exact Calls.quiet_of_same (prog_checkS _ q (by omega))))
  go_wp2
  go_ret2
  refine ⟨ret_ib (by omega) ?_, _, rfl⟩
  rw [HCV.out]
  exact ne_dec _ _
end Go.Proofs.YtaokemapkgggoaaGreatDoor
