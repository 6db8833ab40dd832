import Derived.Test.YtaokemapkgggoaaGreatDoorFd18
import Derived.Test.YtaokemapkgggoaaGreatDoorFd27
namespace Go.Proofs.YtaokemapkgggoaaGreatDoor
open Go.RowKit

theorem Dv.ok.put {d : Dv} (h : d.ok) (n : Nat) (q : ByteArray) (hq : q.size ≤ 20) : (d.k.put n q).fair := by
  have f := h.fair
  unfold Kep.put
  split
  · exact ⟨f.n0, f.n1, f.t0, f.t1, f.pin, by show q.size < _; omega, f.k1, f.k2, f.k3⟩
  · split
    · exact ⟨f.n0, f.n1, f.t0, f.t1, f.pin, f.k0, by show q.size < _; omega, f.k2, f.k3⟩
    · split
      · exact ⟨f.n0, f.n1, f.t0, f.t1, f.pin, f.k0, f.k1, by show q.size < _; omega, f.k3⟩
      · exact ⟨f.n0, f.n1, f.t0, f.t1, f.pin, f.k0, f.k1, f.k2, by show q.size < _; omega⟩

set_option maxRecDepth 100000 in
set_option maxHeartbeats 1000000 in
theorem ref_slot_set (w : World) (g : Nat) (d : Dv) (p : ByteArray) (h : DvAt w g d) (ok : d.ok) (hu : ¬ d.unl = false) (hb : ¬ (p.size = 0 ∨ 4 ≤ hd0 p)) (hp : p.size < 1000000) (hl : ¬ 20 < (rest1 p).size) (hw : ¬ 4294967295 ≤ d.k.num) :
    Calls Tryz.prog 82 #[.pointer (some ⟨g, 0, none⟩), .int .i64 3, .string p] w (Left g w (d.slot 3 p)) := by
  rw [slot_std hu hb, if_neg (fun e => hl e.2), if_neg (fun e => hw e.2), if_pos rfl]
  obtain ⟨c0, c1, c2, c3, c4, c5, c6, c7, c8, c9, c10, c11, -⟩ := h.c
  rw [show d.unl = true by simpa using hu] at c11
  have h0 : ¬ p.size = 0 := fun e => hb (.inl e)
  have hpos : 0 < p.size := by omega
  have hby := byte_at hpos
  have hbd := getD_isB (bytesI_B p.data.toList) 0
  have h4 : ¬ 4 ≤ hd0 p := fun e => hb (.inr e)
  have hne := toList_ne_nil h0
  obtain ⟨b0, b1⟩ := hbd
  have hx : ((hd0 p : Nat) : Int) = (bytesI p.data.toList).getD 0 0 := by unfold hd0; omega
  rw [← hx] at hby b0 b1
  clear hx h0 hb
  have hps : (0 : Int) < p.size := by omega
  have hps1 : (1 : Int) ≤ p.size := by omega
  have h4' : ¬ (4 : Int) ≤ (hd0 p : Nat) := by omega
  have hr1 : p.extract 1 p.size = rest1 p := rfl
  have hrs : (rest1 p).size < 1000000 := by unfold rest1; rw [ByteArray.size_extract]; omega
  generalize hd0 p = n at *
  generalize rest1 p = q at *
  have hl' : ¬ (20 : Int) < q.size := by omega
  have hgl : g < w.heap.size := h.lt
  have hne1 : ¬ g = w.heap.size := by omega
  have hne2 : ¬ w.heap.size = g := by omega
  have hfair := ok.put n q (by omega)
  have hn0 : 0 ≤ d.k.num := by have := ok.n0; omega
  have hn1 : d.k.num < 4294967296 := by have := ok.n1; omega
  rcases (by omega : n = 0 ∨ n = 1 ∨ n = 2 ∨ n = 3) with rfl | rfl | rfl | rfl
  · go_enter Tryz.func82, Tryz.ntmps82
    go_wp2_with (first | (go_at_call 83; refine (ref_worn w g _ h).mono ?_; rintro _ w9 ⟨rfl, e9⟩; rw [e9]; clear e9 w9) | (go_at_call 84; refine (ref_write _ g d (d.k.put 0 q) (Row.alloc h _) hfair hn0 hn1 ok.wh ok.cut).mono ?_; rintro _ w2 ⟨rfl, hd2, hg2⟩))
    go_ret2
    exact ⟨rfl, hd2, (World.grownBy_alloc w _ _).trans hg2⟩
  · go_enter Tryz.func82, Tryz.ntmps82
    go_wp2_with (first | (go_at_call 83; refine (ref_worn w g _ h).mono ?_; rintro _ w9 ⟨rfl, e9⟩; rw [e9]; clear e9 w9) | (go_at_call 84; refine (ref_write _ g d (d.k.put 1 q) (Row.alloc h _) hfair hn0 hn1 ok.wh ok.cut).mono ?_; rintro _ w2 ⟨rfl, hd2, hg2⟩))
    go_ret2
    exact ⟨rfl, hd2, (World.grownBy_alloc w _ _).trans hg2⟩
  · go_enter Tryz.func82, Tryz.ntmps82
    go_wp2_with (first | (go_at_call 83; refine (ref_worn w g _ h).mono ?_; rintro _ w9 ⟨rfl, e9⟩; rw [e9]; clear e9 w9) | (go_at_call 84; refine (ref_write _ g d (d.k.put 2 q) (Row.alloc h _) hfair hn0 hn1 ok.wh ok.cut).mono ?_; rintro _ w2 ⟨rfl, hd2, hg2⟩))
    go_ret2
    exact ⟨rfl, hd2, (World.grownBy_alloc w _ _).trans hg2⟩
  · go_enter Tryz.func82, Tryz.ntmps82
    go_wp2_with (first | (go_at_call 83; refine (ref_worn w g _ h).mono ?_; rintro _ w9 ⟨rfl, e9⟩; rw [e9]; clear e9 w9) | (go_at_call 84; refine (ref_write _ g d (d.k.put 3 q) (Row.alloc h _) hfair hn0 hn1 ok.wh ok.cut).mono ?_; rintro _ w2 ⟨rfl, hd2, hg2⟩))
    go_ret2
    exact ⟨rfl, hd2, (World.grownBy_alloc w _ _).trans hg2⟩

theorem key_cell {w : World} {g : Nat} {d : Dv} (h : DvAt w g d) (n : Nat) (hn : n < 4) : w.cell? ⟨g, 6 + n, none⟩ = some (.string (d.k.key n)) := by
  obtain ⟨-, -, -, -, -, -, c6, c7, c8, c9, -⟩ := h.c
  rcases (by omega : n = 0 ∨ n = 1 ∨ n = 2 ∨ n = 3) with rfl | rfl | rfl | rfl
  · exact c6
  · exact c7
  · exact c8
  · exact c9

set_option maxRecDepth 100000 in
set_option maxHeartbeats 1000000 in
theorem ref_slot_none4 (w : World) (g : Nat) (d : Dv) (p : ByteArray) (h : DvAt w g d) (hu : ¬ d.unl = false) (hb : ¬ (p.size = 0 ∨ 4 ≤ hd0 p)) (hp : p.size < 1000000) (hk : (d.k.key (hd0 p)).size = 0) :
    Calls Tryz.prog 82 #[.pointer (some ⟨g, 0, none⟩), .int .i64 4, .string p] w (Left g w (d.slot 4 p)) := by
  rw [slot_std hu hb, if_neg (fun e => absurd e.1 (by decide)), if_neg (fun e => absurd e.1 (by decide)), if_neg (by decide), if_neg (fun e => absurd e.1 (by decide)), if_pos hk]
  obtain ⟨c0, c1, c2, c3, c4, c5, c6, c7, c8, c9, c10, c11, -⟩ := h.c
  rw [show d.unl = true by simpa using hu] at c11
  have h0 : ¬ p.size = 0 := fun e => hb (.inl e)
  have hpos : 0 < p.size := by omega
  have hby := byte_at hpos
  have hbd := getD_isB (bytesI_B p.data.toList) 0
  have h4 : ¬ 4 ≤ hd0 p := fun e => hb (.inr e)
  have hne := toList_ne_nil h0
  obtain ⟨b0, b1⟩ := hbd
  have hx : ((hd0 p : Nat) : Int) = (bytesI p.data.toList).getD 0 0 := by unfold hd0; omega
  rw [← hx] at hby b0 b1
  clear hx h0 hb
  have hps : (0 : Int) < p.size := by omega
  have hps1 : (1 : Int) ≤ p.size := by omega
  have h4' : ¬ (4 : Int) ≤ (hd0 p : Nat) := by omega
  have hr1 : p.extract 1 p.size = rest1 p := rfl
  have hrs : (rest1 p).size < 1000000 := by unfold rest1; rw [ByteArray.size_extract]; omega
  generalize hd0 p = n at *
  generalize rest1 p = q at *
  have hck := key_cell h n (by omega)
  rw [empty_of_size hk] at hck
  have hn0 : (0 : Int) ≤ (n : Nat) := by omega
  have hn4 : ((n : Nat) : Int) < 4 := by omega
  go_enter Tryz.func82, Tryz.ntmps82
  go_wp2_with (first | (go_at_call 83; refine (ref_worn w g _ h).mono ?_; rintro _ w9 ⟨rfl, e9⟩; rw [e9]; clear e9 w9))
  go_ret2
  exact ⟨rfl, h, World.grownBy.refl _ _⟩

set_option maxRecDepth 100000 in
set_option maxHeartbeats 1000000 in
theorem ref_slot_none5 (w : World) (g : Nat) (d : Dv) (p : ByteArray) (h : DvAt w g d) (hu : ¬ d.unl = false) (hb : ¬ (p.size = 0 ∨ 4 ≤ hd0 p)) (hp : p.size < 1000000) (hl : (rest1 p).size = 8) (hk : (d.k.key (hd0 p)).size = 0) :
    Calls Tryz.prog 82 #[.pointer (some ⟨g, 0, none⟩), .int .i64 5, .string p] w (Left g w (d.slot 5 p)) := by
  rw [slot_std hu hb, if_neg (fun e => absurd e.1 (by decide)), if_neg (fun e => absurd e.1 (by decide)), if_neg (by decide), if_neg (fun e => e.2 hl), if_pos hk]
  obtain ⟨c0, c1, c2, c3, c4, c5, c6, c7, c8, c9, c10, c11, -⟩ := h.c
  rw [show d.unl = true by simpa using hu] at c11
  have h0 : ¬ p.size = 0 := fun e => hb (.inl e)
  have hpos : 0 < p.size := by omega
  have hby := byte_at hpos
  have hbd := getD_isB (bytesI_B p.data.toList) 0
  have h4 : ¬ 4 ≤ hd0 p := fun e => hb (.inr e)
  have hne := toList_ne_nil h0
  obtain ⟨b0, b1⟩ := hbd
  have hx : ((hd0 p : Nat) : Int) = (bytesI p.data.toList).getD 0 0 := by unfold hd0; omega
  rw [← hx] at hby b0 b1
  clear hx h0 hb
  have hps : (0 : Int) < p.size := by omega
  have hps1 : (1 : Int) ≤ p.size := by omega
  have h4' : ¬ (4 : Int) ≤ (hd0 p : Nat) := by omega
  have hr1 : p.extract 1 p.size = rest1 p := rfl
  have hrs : (rest1 p).size < 1000000 := by unfold rest1; rw [ByteArray.size_extract]; omega
  generalize hd0 p = n at *
  generalize rest1 p = q at *
  have hck := key_cell h n (by omega)
  rw [empty_of_size hk] at hck
  have hl5 : (q.size : Int) = 8 := by omega
  have hn0 : (0 : Int) ≤ (n : Nat) := by omega
  have hn4 : ((n : Nat) : Int) < 4 := by omega
  go_enter Tryz.func82, Tryz.ntmps82
  go_wp2_with (first | (go_at_call 83; refine (ref_worn w g _ h).mono ?_; rintro _ w9 ⟨rfl, e9⟩; rw [e9]; clear e9 w9))
  go_ret2
  exact ⟨rfl, h, World.grownBy.refl _ _⟩

theorem keep_slot {w W wx : World} {g n sm : Nat} {kb : ByteArray} (hg : g < w.heap.size) (hb : Below W.heap.size W wx)
    (h : W.cell? ⟨g, 0, none⟩ = some (.pointer (some ⟨sm, 0, none⟩)) ∧ W.cell? ⟨g, 6 + n, none⟩ = some (.string kb) ∧ Summ W sm ∧ Below w.heap.size w W) :
    wx.cell? ⟨g, 0, none⟩ = some (.pointer (some ⟨sm, 0, none⟩)) ∧ wx.cell? ⟨g, 6 + n, none⟩ = some (.string kb) ∧ Summ wx sm ∧ Below w.heap.size w wx :=
  have hgW : g < W.heap.size := Nat.lt_of_lt_of_le hg h.2.2.2.size
  ⟨(hb.cell (p := ⟨g, 0, none⟩) hgW).trans h.1, (hb.cell (p := ⟨g, 6 + n, none⟩) hgW).trans h.2.1, h.2.2.1.below hb (Nat.le_refl _), h.2.2.2.trans (hb.mono h.2.2.2.size)⟩

set_option maxRecDepth 100000 in
set_option maxHeartbeats 1000000 in
theorem ref_slot_told4 (hsum : SumSaid sumSpecRef) (w : World) (g : Nat) (d : Dv) (p : ByteArray) (h : DvAt w g d) (hS : Summ w d.sm) (hu : ¬ d.unl = false) (hb : ¬ (p.size = 0 ∨ 4 ≤ hd0 p)) (hp : p.size < 80000) (hk : ¬ (d.k.key (hd0 p)).size = 0) :
    Calls Tryz.prog 82 #[.pointer (some ⟨g, 0, none⟩), .int .i64 4, .string p] w (Left g w (d.slot 4 p)) := by
  rw [slot_std hu hb, if_neg (fun e => absurd e.1 (by decide)), if_neg (fun e => absurd e.1 (by decide)), if_neg (by decide), if_neg (fun e => absurd e.1 (by decide)), if_neg hk, if_neg (by decide)]
  obtain ⟨c0, c1, c2, c3, c4, c5, c6, c7, c8, c9, c10, c11, -⟩ := h.c
  rw [show d.unl = true by simpa using hu] at c11
  have h0 : ¬ p.size = 0 := fun e => hb (.inl e)
  have hpos : 0 < p.size := by omega
  have hby := byte_at hpos
  have hbd := getD_isB (bytesI_B p.data.toList) 0
  have h4 : ¬ 4 ≤ hd0 p := fun e => hb (.inr e)
  have hne := toList_ne_nil h0
  obtain ⟨b0, b1⟩ := hbd
  have hx : ((hd0 p : Nat) : Int) = (bytesI p.data.toList).getD 0 0 := by unfold hd0; omega
  rw [← hx] at hby b0 b1
  clear hx h0 hb
  have hps : (0 : Int) < p.size := by omega
  have hps1 : (1 : Int) ≤ p.size := by omega
  have h4' : ¬ (4 : Int) ≤ (hd0 p : Nat) := by omega
  have hr1 : p.extract 1 p.size = rest1 p := rfl
  have hrs : (rest1 p).size < 80000 := by unfold rest1; rw [ByteArray.size_extract]; omega
  generalize hd0 p = n at *
  generalize rest1 p = q at *
  have hck := key_cell h n (by omega)
  have hke := toList_ne_nil hk
  have hn0 : (0 : Int) ≤ (n : Nat) := by omega
  have hn4 : ((n : Nat) : Int) < 4 := by omega
  generalize d.k.key n = kb at *
  have hlt := h.lt
  go_enter Tryz.func82, Tryz.ntmps82
  go_wp2_with (first | (go_at_call 83; refine (ref_worn w g _ h).mono ?_; rintro _ w9 ⟨rfl, e9⟩; rw [e9]; clear e9 w9))
  have hS0 : w.drew.cell? ⟨g, 0, none⟩ = some (.pointer (some ⟨d.sm, 0, none⟩)) ∧ w.drew.cell? ⟨g, 6 + n, none⟩ = some (.string kb) ∧ Summ w.drew d.sm ∧ Below w.heap.size w w.drew := ⟨c0, hck, hS, (Below.refl _ _).drew⟩
  go_region_held3 (fun w' => w'.cell? ⟨g, 0, none⟩ = some (.pointer (some ⟨d.sm, 0, none⟩)) ∧ w'.cell? ⟨g, 6 + n, none⟩ = some (.string kb) ∧ Summ w' d.sm ∧ Below w.heap.size w w') (first | exact hS0 | exact keep_slot hlt hbx (by assumption)) (first | (go_at_call 17; refine (ref_seal hsum sumRef_length kb q d.sm _ ?_ (by omega)).mono ?_; (go_split_ands; assumption); rintro _ wx ⟨rfl, hbx⟩))
  go_wp2
  go_ret2
  have hB := (keep_slot hlt hbx hS0).2.2.2
  exact ⟨rfl, h.below hB hlt, grown_of_below _ hB⟩

set_option maxRecDepth 100000 in
set_option maxHeartbeats 1000000 in
theorem ref_slot_told5 (hsum : SumSaid sumSpecRef) (w : World) (g : Nat) (d : Dv) (p : ByteArray) (h : DvAt w g d) (hS : Summ w d.sm) (hu : ¬ d.unl = false) (hb : ¬ (p.size = 0 ∨ 4 ≤ hd0 p)) (hp : p.size < 80000) (hl : (rest1 p).size = 8) (hk : ¬ (d.k.key (hd0 p)).size = 0) :
    Calls Tryz.prog 82 #[.pointer (some ⟨g, 0, none⟩), .int .i64 5, .string p] w (Left g w (d.slot 5 p)) := by
  rw [slot_std hu hb, if_neg (fun e => absurd e.1 (by decide)), if_neg (fun e => absurd e.1 (by decide)), if_neg (by decide), if_neg (fun e => e.2 hl), if_neg hk, if_pos rfl]
  obtain ⟨c0, c1, c2, c3, c4, c5, c6, c7, c8, c9, c10, c11, -⟩ := h.c
  rw [show d.unl = true by simpa using hu] at c11
  have h0 : ¬ p.size = 0 := fun e => hb (.inl e)
  have hpos : 0 < p.size := by omega
  have hby := byte_at hpos
  have hbd := getD_isB (bytesI_B p.data.toList) 0
  have h4 : ¬ 4 ≤ hd0 p := fun e => hb (.inr e)
  have hne := toList_ne_nil h0
  obtain ⟨b0, b1⟩ := hbd
  have hx : ((hd0 p : Nat) : Int) = (bytesI p.data.toList).getD 0 0 := by unfold hd0; omega
  rw [← hx] at hby b0 b1
  clear hx h0 hb
  have hps : (0 : Int) < p.size := by omega
  have hps1 : (1 : Int) ≤ p.size := by omega
  have h4' : ¬ (4 : Int) ≤ (hd0 p : Nat) := by omega
  have hr1 : p.extract 1 p.size = rest1 p := rfl
  have hrs : (rest1 p).size < 80000 := by unfold rest1; rw [ByteArray.size_extract]; omega
  generalize hd0 p = n at *
  generalize rest1 p = q at *
  have hck := key_cell h n (by omega)
  have hke := toList_ne_nil hk
  have hl5 : (q.size : Int) = 8 := by omega
  have hn0 : (0 : Int) ≤ (n : Nat) := by omega
  have hn4 : ((n : Nat) : Int) < 4 := by omega
  generalize d.k.key n = kb at *
  have hlt := h.lt
  go_enter Tryz.func82, Tryz.ntmps82
  go_wp2_with (first | (go_at_call 83; refine (ref_worn w g _ h).mono ?_; rintro _ w9 ⟨rfl, e9⟩; rw [e9]; clear e9 w9))
  have hS0 : w.drew.cell? ⟨g, 0, none⟩ = some (.pointer (some ⟨d.sm, 0, none⟩)) ∧ w.drew.cell? ⟨g, 6 + n, none⟩ = some (.string kb) ∧ Summ w.drew d.sm ∧ Below w.heap.size w w.drew := ⟨c0, hck, hS, (Below.refl _ _).drew⟩
  go_region_held3 (fun w' => w'.cell? ⟨g, 0, none⟩ = some (.pointer (some ⟨d.sm, 0, none⟩)) ∧ w'.cell? ⟨g, 6 + n, none⟩ = some (.string kb) ∧ Summ w' d.sm ∧ Below w.heap.size w w') (first | exact hS0 | exact keep_slot hlt hbx (by assumption)) (first | (go_at_call 19; refine (ref_code hsum sumRef_length sumRef_B kb q d.sm _ ?_ (by omega)).mono ?_; (go_split_ands; assumption); rintro _ wx ⟨rfl, hbx⟩))
  go_wp2
  go_ret2
  have hB := (keep_slot hlt hbx hS0).2.2.2
  exact ⟨rfl, h.below hB hlt, grown_of_below _ hB⟩
end Go.Proofs.YtaokemapkgggoaaGreatDoor

namespace Go.Proofs.YtaokemapkgggoaaGreatDoor
open Go.RowKit

theorem ref_slot (hsum : SumSaid sumSpecRef) (w : World) (g : Nat) (d : Dv) (kind : Int) (p : ByteArray) (h : DvAt w g d) (ok : d.ok) (hS : Summ w d.sm) (hp : p.size < 80000) (hk : kind = 3 ∨ kind = 4 ∨ kind = 5) :
    Calls Tryz.prog 82 #[.pointer (some ⟨g, 0, none⟩), .int .i64 kind, .string p] w (Left g w (d.slot kind p)) := by
  by_cases hu : d.unl = false
  · exact ref_slot_locked w g d kind p h hu
  · by_cases hb : p.size = 0 ∨ 4 ≤ hd0 p
    · exact ref_slot_bad w g d kind p h hu hb (by omega)
    · rcases hk with rfl | rfl | rfl
      · by_cases hl : 20 < (rest1 p).size
        · exact ref_slot_long w g d p h hu hb (by omega) hl
        · by_cases hw : 4294967295 ≤ d.k.num
          · exact ref_slot_worn w g d p h hu hb (by omega) hl hw
          · exact ref_slot_set w g d p h ok hu hb (by omega) hl hw
      · by_cases hk : (d.k.key (hd0 p)).size = 0
        · exact ref_slot_none4 w g d p h hu hb (by omega) hk
        · exact ref_slot_told4 hsum w g d p h hS hu hb hp hk
      · by_cases hl : (rest1 p).size = 8
        · by_cases hk : (d.k.key (hd0 p)).size = 0
          · exact ref_slot_none5 w g d p h hu hb (by omega) hl hk
          · exact ref_slot_told5 hsum w g d p h hS hu hb hp hl hk
        · exact ref_slot_eight w g d p h hu hb (by omega) hl

/-- a bit for each of the first i slots that has a key -/
def Kep.bits (k : Kep) : Nat → Int
  | 0 => 0
  | i + 1 => k.bits i + (if (k.key i).size = 0 then 0 else 2 ^ i)
def Kep.withPin (k : Kep) (p : ByteArray) : Kep := { k with pin := p }

/-- a command -/
def Dv.command (d : Dv) (kind : Int) (p : ByteArray) : Dv × Int × List UInt8 :=
  if kind = 1 then d.unlock p
  else if kind = 2 then (if p.size = 0 then (d.lock, 0, []) else (d, 4, []))
  else if kind = 7 then (if p.size = 0 then (d, 0, [b8 (if d.unl then 1 else 0), b8 d.k.tries, b8 (d.k.bits 4)]) else (d, 4, []))
  else if kind = 3 ∨ kind = 4 ∨ kind = 5 then d.slot kind p
  else if kind = 6 then
    (if d.unl = false then (d, 2, []) else if p.size < 1 ∨ 8 < p.size then (d, 4, []) else if 4294967295 ≤ d.k.num then (d, 7, []) else (d.wrote (d.k.withPin p), 0, []))
  else (d, 6, [])

theorem Kep.bits_bd (k : Kep) : ∀ i, i ≤ 4 → 0 ≤ k.bits i ∧ k.bits i < 2 ^ i
  | 0, _ => by simp [Kep.bits]
  | i + 1, h => by
    have := Kep.bits_bd k i (by omega)
    simp only [Kep.bits]
    have e : (2 : Int) ^ (i + 1) = 2 ^ i + 2 ^ i := by rw [Int.pow_succ]; omega
    split <;> omega

set_option maxRecDepth 100000 in
set_option maxHeartbeats 1000000 in
theorem ref_command1 (w : World) (g : Nat) (d : Dv) (p : ByteArray) (h : DvAt w g d) (ok : d.ok) (hp : p.size < 80000) :
    Calls Tryz.prog 57 #[.pointer (some ⟨g, 0, none⟩), .int .i64 1, .string p] w (Left g w (d.command 1 p)) := by
  rw [show d.command 1 p = d.unlock p by unfold Dv.command; rw [if_pos rfl]]
  go_enter Tryz.func57, Tryz.ntmps57
  go_wp2_with (go_at_call 81; refine (ref_unlock w g d p h ok (by omega)).mono ?_; rintro _ w2 ⟨rfl, hd2, hg2⟩)
  go_ret2
  exact ⟨rfl, hd2, hg2⟩

set_option maxRecDepth 100000 in
set_option maxHeartbeats 1000000 in
theorem ref_command345 (hsum : SumSaid sumSpecRef) (w : World) (g : Nat) (d : Dv) (kind : Int) (p : ByteArray) (h : DvAt w g d) (ok : d.ok) (hS : Summ w d.sm) (hp : p.size < 80000) (hk : kind = 3 ∨ kind = 4 ∨ kind = 5) :
    Calls Tryz.prog 57 #[.pointer (some ⟨g, 0, none⟩), .int .i64 kind, .string p] w (Left g w (d.command kind p)) := by
  rw [show d.command kind p = d.slot kind p by unfold Dv.command; rw [if_neg (by omega), if_neg (by omega), if_neg (by omega), if_pos hk]]
  have hs := ref_slot hsum w g d kind p h ok hS hp hk
  rcases hk with rfl | rfl | rfl
  · go_enter Tryz.func57, Tryz.ntmps57
    go_wp2_with (go_at_call 82; refine hs.mono ?_; rintro _ w2 ⟨rfl, hd2, hg2⟩)
    go_ret2
    exact ⟨rfl, hd2, hg2⟩
  · go_enter Tryz.func57, Tryz.ntmps57
    go_wp2_with (go_at_call 82; refine hs.mono ?_; rintro _ w2 ⟨rfl, hd2, hg2⟩)
    go_ret2
    exact ⟨rfl, hd2, hg2⟩
  · go_enter Tryz.func57, Tryz.ntmps57
    go_wp2_with (go_at_call 82; refine hs.mono ?_; rintro _ w2 ⟨rfl, hd2, hg2⟩)
    go_ret2
    exact ⟨rfl, hd2, hg2⟩

set_option maxRecDepth 100000 in
set_option maxHeartbeats 1000000 in
theorem ref_command2 (w : World) (g : Nat) (d : Dv) (p : ByteArray) (h : DvAt w g d) :
    Calls Tryz.prog 57 #[.pointer (some ⟨g, 0, none⟩), .int .i64 2, .string p] w (Left g w (d.command 2 p)) := by
  obtain ⟨c0, c1, c2, c3, c4, c5, c6, c7, c8, c9, c10, c11, -⟩ := h.c
  have f11 := h.frozen 11
  rw [show d.command 2 p = (if p.size = 0 then (d.lock, 0, []) else (d, 4, [])) by unfold Dv.command; rw [if_neg (by omega), if_pos rfl]]
  by_cases h0 : p.size = 0
  · rw [if_pos h0]
    obtain rfl := empty_of_size h0
    go_enter Tryz.func57, Tryz.ntmps57
    go_wp2
    go_ret2
    exact ⟨rfl, Row.setCell h 11 (.bool false), grown_set (World.grownBy.refl _ _) 11 _⟩
  · rw [if_neg h0]
    have hne := toList_ne_nil h0
    go_enter Tryz.func57, Tryz.ntmps57
    go_wp2
    go_ret2
    exact ⟨rfl, h, World.grownBy.refl _ _⟩

set_option maxRecDepth 100000 in
set_option maxHeartbeats 1000000 in
theorem ref_command_none (w : World) (g : Nat) (d : Dv) (kind : Int) (p : ByteArray) (h : DvAt w g d) (hk : kind < 1 ∨ 7 < kind) :
    Calls Tryz.prog 57 #[.pointer (some ⟨g, 0, none⟩), .int .i64 kind, .string p] w (Left g w (d.command kind p)) := by
  rw [show d.command kind p = (d, 6, []) by unfold Dv.command; rw [if_neg (by omega), if_neg (by omega), if_neg (by omega), if_neg (by omega), if_neg (by omega)]]
  have k1 : ¬ kind = 1 := by omega
  have k2 : ¬ kind = 2 := by omega
  have k3 : ¬ kind = 3 := by omega
  have k4 : ¬ kind = 4 := by omega
  have k5 : ¬ kind = 5 := by omega
  have k6 : ¬ kind = 6 := by omega
  have k7 : ¬ kind = 7 := by omega
  go_enter Tryz.func57, Tryz.ntmps57
  go_wp2
  go_ret2
  exact ⟨rfl, h, World.grownBy.refl _ _⟩

set_option maxRecDepth 100000 in
set_option maxHeartbeats 1000000 in
theorem ref_command6 (w : World) (g : Nat) (d : Dv) (p : ByteArray) (h : DvAt w g d) (ok : d.ok) (hp : p.size < 80000) :
    Calls Tryz.prog 57 #[.pointer (some ⟨g, 0, none⟩), .int .i64 6, .string p] w (Left g w (d.command 6 p)) := by
  obtain ⟨c0, c1, c2, c3, c4, c5, c6, c7, c8, c9, c10, c11, -⟩ := h.c
  rw [show d.command 6 p = (if d.unl = false then (d, 2, []) else if p.size < 1 ∨ 8 < p.size then (d, 4, []) else if 4294967295 ≤ d.k.num then (d, 7, []) else (d.wrote (d.k.withPin p), 0, [])) by unfold Dv.command; rw [if_neg (by omega), if_neg (by omega), if_neg (by omega), if_neg (by omega), if_pos rfl]]
  by_cases hu : d.unl = false
  · rw [if_pos hu]
    rw [hu] at c11
    go_enter Tryz.func57, Tryz.ntmps57
    go_wp2
    go_ret2
    exact ⟨rfl, h, World.grownBy.refl _ _⟩
  · rw [if_neg hu]
    rw [show d.unl = true by simpa using hu] at c11
    by_cases h1 : p.size < 1 ∨ 8 < p.size
    · rw [if_pos h1]
      by_cases h1a : p.size < 1
      · have h1' : (p.size : Int) < 1 := by omega
        go_enter Tryz.func57, Tryz.ntmps57
        go_wp2
        go_ret2
        exact ⟨rfl, h, World.grownBy.refl _ _⟩
      · have h1' : ¬ (p.size : Int) < 1 := by omega
        have h1'' : (8 : Int) < p.size := by omega
        go_enter Tryz.func57, Tryz.ntmps57
        go_wp2
        go_ret2
        exact ⟨rfl, h, World.grownBy.refl _ _⟩
    · rw [if_neg h1]
      have h1' : ¬ (p.size : Int) < 1 := by omega
      have h1'' : ¬ (8 : Int) < p.size := by omega
      by_cases hw : 4294967295 ≤ d.k.num
      · rw [if_pos hw]
        go_enter Tryz.func57, Tryz.ntmps57
        go_wp2_with (go_at_call 83; refine (ref_worn w g _ h).mono ?_; rintro _ w9 ⟨rfl, e9⟩; rw [e9]; clear e9 w9)
        go_ret2
        exact ⟨rfl, h, World.grownBy.refl _ _⟩
      · rw [if_neg hw]
        have f := ok.fair
        have hfair : (d.k.withPin p).fair := ⟨f.n0, f.n1, f.t0, f.t1, by show p.size < _; omega, f.k0, f.k1, f.k2, f.k3⟩
        have hn0 : 0 ≤ d.k.num := by have := ok.n0; omega
        have hn1 : d.k.num < 4294967296 := by have := ok.n1; omega
        have hgl : g < w.heap.size := h.lt
        have hne1 : ¬ g = w.heap.size := by omega
        have hne2 : ¬ w.heap.size = g := by omega
        go_enter Tryz.func57, Tryz.ntmps57
        go_wp2_with (first | (go_at_call 83; refine (ref_worn w g _ h).mono ?_; rintro _ w9 ⟨rfl, e9⟩; rw [e9]; clear e9 w9) | (go_at_call 84; refine (ref_write _ g d (d.k.withPin p) (Row.alloc h _) hfair hn0 hn1 ok.wh ok.cut).mono ?_; rintro _ w2 ⟨rfl, hd2, hg2⟩))
        go_ret2
        exact ⟨rfl, hd2, (World.grownBy_alloc w _ _).trans hg2⟩
end Go.Proofs.YtaokemapkgggoaaGreatDoor
