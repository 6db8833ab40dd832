import Derived.Test.YtaokemapkgggoaaGreatDoorFd17
import Derived.Test.YtaokemapkgggoaaGreatDoorFd16
import Derived.OwnWalk
namespace Go.Proofs.YtaokemapkgggoaaGreatDoor
open Go.RowKit

theorem ref_unlock (w : World) (g : Nat) (d : Dv) (p : ByteArray) (h : DvAt w g d) (ok : d.ok) (hp : p.size < 1000000) :
    Calls Tryz.prog 81 #[.pointer (some ⟨g, 0, none⟩), .string p] w (Left g w (d.unlock p)) := by
  by_cases he : (p.size < 1 ∨ 8 < p.size) ∨ d.k.tries = 0 ∨ 4294967295 ≤ d.k.num
  · exact ref_unlock_early w g d p h hp he
  · have h1 : 1 ≤ p.size := by omega
    have h2 : p.size ≤ 8 := by omega
    have h3 : ¬ d.k.tries = 0 := fun e => he (.inr (.inl e))
    have h4 : ¬ 4294967295 ≤ d.k.num := fun e => he (.inr (.inr e))
    by_cases hq : p = d.k.pin
    · by_cases hw : 4294967295 ≤ d.k.num + 1
      · exact ref_unlock_worn w g d p h ok h1 h2 h3 h4 hq hw
      · exact ref_unlock_yes w g d p h ok h1 h2 h3 h4 hq hw
    · by_cases hz : d.k.tries - 1 = 0
      · by_cases hw : 4294967295 ≤ d.k.num + 1
        · exact ref_unlock_noB w g d p h ok h1 h2 h3 h4 hq hz hw
        · exact ref_unlock_noC w g d p h ok h1 h2 h3 h4 hq hz hw
      · exact ref_unlock_noA w g d p h ok h1 h2 h3 h4 hq hz

def Kep.key (k : Kep) (i : Nat) : ByteArray := if i = 0 then k.k0 else if i = 1 then k.k1 else if i = 2 then k.k2 else k.k3
def Kep.put (k : Kep) (i : Nat) (b : ByteArray) : Kep :=
  if i = 0 then { k with k0 := b } else if i = 1 then { k with k1 := b } else if i = 2 then { k with k2 := b } else { k with k3 := b }

/-- the first byte of a text, and the rest -/
def hd0 (p : ByteArray) : Nat := ((bytesI p.data.toList).getD 0 0).toNat
def rest1 (p : ByteArray) : ByteArray := p.extract 1 p.size

/-- what is asked of a slot -/
def Dv.slot (d : Dv) (kind : Int) (p : ByteArray) : Dv × Int × List UInt8 :=
  if d.unl = false then (d, 2, [])
  else if p.size = 0 ∨ 4 ≤ hd0 p then (d, 4, [])
  else if kind = 3 ∧ 20 < (rest1 p).size then (d, 4, [])
  else if kind = 3 ∧ 4294967295 ≤ d.k.num then (d, 7, [])
  else if kind = 3 then (d.wrote (d.k.put (hd0 p) (rest1 p)), 0, [])
  else if kind = 5 ∧ (rest1 p).size ≠ 8 then (d, 4, [])
  else if (d.k.key (hd0 p)).size = 0 then (d, 5, [])
  else if kind = 5 then (d, 0, toBytes (digL (refWord (refSeal sumSpecRef (d.k.key (hd0 p)).data.toList (rest1 p).data.toList)) 6))
  else (d, 0, toBytes (refSeal sumSpecRef (d.k.key (hd0 p)).data.toList (rest1 p).data.toList))

set_option maxRecDepth 100000 in
set_option maxHeartbeats 1000000 in
theorem ref_slot_locked (w : World) (g : Nat) (d : Dv) (kind : Int) (p : ByteArray) (h : DvAt w g d) (hu : d.unl = false) :
    Calls Tryz.prog 82 #[.pointer (some ⟨g, 0, none⟩), .int .i64 kind, .string p] w (Left g w (d.slot kind p)) := by
  have e : d.slot kind p = (d, 2, []) := by unfold Dv.slot; rw [if_pos hu]
  rw [e]
  obtain ⟨-, -, -, -, -, -, -, -, -, -, -, c11, -⟩ := h.c
  rw [hu] at c11
  go_enter Tryz.func82, Tryz.ntmps82
  go_wp2
  go_ret2
  exact ⟨rfl, h, World.grownBy.refl _ _⟩

theorem empty_of_size {p : ByteArray} (h : p.size = 0) : p = ⟨#[]⟩ := ByteArray.ext (Array.eq_empty_of_size_eq_zero h)
theorem toList_ne_nil {p : ByteArray} (h : ¬ p.size = 0) : p.toList.isEmpty = false := by
  rw [ByteArray.toList_eq, List.isEmpty_eq_false_iff]
  intro e
  have : p.size = p.data.toList.length := by rw [Array.length_toList]; rfl
  rw [e] at this
  exact h this

set_option maxRecDepth 100000 in
set_option maxHeartbeats 1000000 in
theorem ref_slot_bad (w : World) (g : Nat) (d : Dv) (kind : Int) (p : ByteArray) (h : DvAt w g d) (hu : ¬ d.unl = false) (hb : p.size = 0 ∨ 4 ≤ hd0 p) (hp : p.size < 1000000) :
    Calls Tryz.prog 82 #[.pointer (some ⟨g, 0, none⟩), .int .i64 kind, .string p] w (Left g w (d.slot kind p)) := by
  have e : d.slot kind p = (d, 4, []) := by unfold Dv.slot; rw [if_neg hu, if_pos hb]
  rw [e]
  clear e
  obtain ⟨-, -, -, -, -, -, -, -, -, -, -, c11, -⟩ := h.c
  rw [show d.unl = true by simpa using hu] at c11
  by_cases h0 : p.size = 0
  · obtain rfl := empty_of_size h0
    go_enter Tryz.func82, Tryz.ntmps82
    go_wp2
    go_ret2
    exact ⟨rfl, h, World.grownBy.refl _ _⟩
  · have hpos : 0 < p.size := by omega
    have hby := byte_at hpos
    have hbd := getD_isB (bytesI_B p.data.toList) 0
    have h4 : 4 ≤ hd0 p := by omega
    unfold hd0 at h4
    have hne := toList_ne_nil h0
    obtain ⟨b0, b1⟩ := hbd
    clear h0 hb
    generalize (bytesI p.data.toList).getD 0 0 = x at *
    have h4' : (4 : Int) ≤ x := by omega
    have hps : (0 : Int) < p.size := by omega
    go_enter Tryz.func82, Tryz.ntmps82
    go_wp2
    go_ret2
    exact ⟨rfl, h, World.grownBy.refl _ _⟩

theorem slot_std {d : Dv} {kind : Int} {p : ByteArray} (hu : ¬ d.unl = false) (hb : ¬ (p.size = 0 ∨ 4 ≤ hd0 p)) : d.slot kind p =
    (if kind = 3 ∧ 20 < (rest1 p).size then (d, 4, [])
    else if kind = 3 ∧ 4294967295 ≤ d.k.num then (d, 7, [])
    else if kind = 3 then (d.wrote (d.k.put (hd0 p) (rest1 p)), 0, [])
    else if kind = 5 ∧ (rest1 p).size ≠ 8 then (d, 4, [])
    else if (d.k.key (hd0 p)).size = 0 then (d, 5, [])
    else if kind = 5 then (d, 0, toBytes (digL (refWord (refSeal sumSpecRef (d.k.key (hd0 p)).data.toList (rest1 p).data.toList)) 6))
    else (d, 0, toBytes (refSeal sumSpecRef (d.k.key (hd0 p)).data.toList (rest1 p).data.toList))) := by
  rw [Dv.slot, if_neg hu, if_neg hb]

set_option maxRecDepth 100000 in
set_option maxHeartbeats 1000000 in
theorem ref_slot_long (w : World) (g : Nat) (d : Dv) (p : ByteArray) (h : DvAt w g d) (hu : ¬ d.unl = false) (hb : ¬ (p.size = 0 ∨ 4 ≤ hd0 p)) (hp : p.size < 1000000) (hl : 20 < (rest1 p).size) :
    Calls Tryz.prog 82 #[.pointer (some ⟨g, 0, none⟩), .int .i64 3, .string p] w (Left g w (d.slot 3 p)) := by
  rw [slot_std hu hb, if_pos ⟨rfl, hl⟩]
  obtain ⟨c0, c1, c2, c3, c4, c5, c6, c7, c8, c9, c10, c11, -⟩ := h.c
  rw [show d.unl = true by simpa using hu] at c11
  have h0 : ¬ p.size = 0 := fun e => hb (.inl e)
  have hpos : 0 < p.size := by omega
  have hby := byte_at hpos
  have hbd := getD_isB (bytesI_B p.data.toList) 0
  have h4 : ¬ 4 ≤ hd0 p := fun e => hb (.inr e)
  have hne := toList_ne_nil h0
  obtain ⟨b0, b1⟩ := hbd
  have hx : ((hd0 p : Nat) : Int) = (bytesI p.data.toList).getD 0 0 := by unfold hd0; omega
  rw [← hx] at hby b0 b1
  clear hx h0 hb
  have hps : (0 : Int) < p.size := by omega
  have hps1 : (1 : Int) ≤ p.size := by omega
  have h4' : ¬ (4 : Int) ≤ (hd0 p : Nat) := by omega
  have hr1 : p.extract 1 p.size = rest1 p := rfl
  have hrs : (rest1 p).size < 1000000 := by unfold rest1; rw [ByteArray.size_extract]; omega
  generalize hd0 p = n at *
  generalize rest1 p = q at *
  have hl' : (20 : Int) < q.size := by omega
  go_enter Tryz.func82, Tryz.ntmps82
  go_wp2_with (go_at_call 83; refine (ref_worn w g _ h).mono ?_; rintro _ w9 ⟨rfl, e9⟩; rw [e9]; clear e9 w9)
  go_ret2
  exact ⟨rfl, h, World.grownBy.refl _ _⟩

set_option maxRecDepth 100000 in
set_option maxHeartbeats 1000000 in
theorem ref_slot_worn (w : World) (g : Nat) (d : Dv) (p : ByteArray) (h : DvAt w g d) (hu : ¬ d.unl = false) (hb : ¬ (p.size = 0 ∨ 4 ≤ hd0 p)) (hp : p.size < 1000000) (hl : ¬ 20 < (rest1 p).size) (hw : 4294967295 ≤ d.k.num) :
    Calls Tryz.prog 82 #[.pointer (some ⟨g, 0, none⟩), .int .i64 3, .string p] w (Left g w (d.slot 3 p)) := by
  rw [slot_std hu hb, if_neg (fun e => hl e.2), if_pos ⟨rfl, hw⟩]
  obtain ⟨c0, c1, c2, c3, c4, c5, c6, c7, c8, c9, c10, c11, -⟩ := h.c
  rw [show d.unl = true by simpa using hu] at c11
  have h0 : ¬ p.size = 0 := fun e => hb (.inl e)
  have hpos : 0 < p.size := by omega
  have hby := byte_at hpos
  have hbd := getD_isB (bytesI_B p.data.toList) 0
  have h4 : ¬ 4 ≤ hd0 p := fun e => hb (.inr e)
  have hne := toList_ne_nil h0
  obtain ⟨b0, b1⟩ := hbd
  have hx : ((hd0 p : Nat) : Int) = (bytesI p.data.toList).getD 0 0 := by unfold hd0; omega
  rw [← hx] at hby b0 b1
  clear hx h0 hb
  have hps : (0 : Int) < p.size := by omega
  have hps1 : (1 : Int) ≤ p.size := by omega
  have h4' : ¬ (4 : Int) ≤ (hd0 p : Nat) := by omega
  have hr1 : p.extract 1 p.size = rest1 p := rfl
  have hrs : (rest1 p).size < 1000000 := by unfold rest1; rw [ByteArray.size_extract]; omega
  generalize hd0 p = n at *
  generalize rest1 p = q at *
  have hl' : ¬ (20 : Int) < q.size := by omega
  go_enter Tryz.func82, Tryz.ntmps82
  go_wp2_with (go_at_call 83; refine (ref_worn w g _ h).mono ?_; rintro _ w9 ⟨rfl, e9⟩; rw [e9]; clear e9 w9)
  go_ret2
  exact ⟨rfl, h, World.grownBy.refl _ _⟩

set_option maxRecDepth 100000 in
set_option maxHeartbeats 1000000 in
theorem ref_slot_eight (w : World) (g : Nat) (d : Dv) (p : ByteArray) (h : DvAt w g d) (hu : ¬ d.unl = false) (hb : ¬ (p.size = 0 ∨ 4 ≤ hd0 p)) (hp : p.size < 1000000) (hl : (rest1 p).size ≠ 8) :
    Calls Tryz.prog 82 #[.pointer (some ⟨g, 0, none⟩), .int .i64 5, .string p] w (Left g w (d.slot 5 p)) := by
  rw [slot_std hu hb, if_neg (fun e => absurd e.1 (by decide)), if_neg (fun e => absurd e.1 (by decide)), if_neg (by decide), if_pos ⟨rfl, hl⟩]
  obtain ⟨c0, c1, c2, c3, c4, c5, c6, c7, c8, c9, c10, c11, -⟩ := h.c
  rw [show d.unl = true by simpa using hu] at c11
  have h0 : ¬ p.size = 0 := fun e => hb (.inl e)
  have hpos : 0 < p.size := by omega
  have hby := byte_at hpos
  have hbd := getD_isB (bytesI_B p.data.toList) 0
  have h4 : ¬ 4 ≤ hd0 p := fun e => hb (.inr e)
  have hne := toList_ne_nil h0
  obtain ⟨b0, b1⟩ := hbd
  have hx : ((hd0 p : Nat) : Int) = (bytesI p.data.toList).getD 0 0 := by unfold hd0; omega
  rw [← hx] at hby b0 b1
  clear hx h0 hb
  have hps : (0 : Int) < p.size := by omega
  have hps1 : (1 : Int) ≤ p.size := by omega
  have h4' : ¬ (4 : Int) ≤ (hd0 p : Nat) := by omega
  have hr1 : p.extract 1 p.size = rest1 p := rfl
  have hrs : (rest1 p).size < 1000000 := by unfold rest1; rw [ByteArray.size_extract]; omega
  generalize hd0 p = n at *
  generalize rest1 p = q at *
  have hl' : ¬ (q.size : Int) = 8 := by omega
  go_enter Tryz.func82, Tryz.ntmps82
  go_wp2_with (go_at_call 83; refine (ref_worn w g _ h).mono ?_; rintro _ w9 ⟨rfl, e9⟩; rw [e9]; clear e9 w9)
  go_ret2
  exact ⟨rfl, h, World.grownBy.refl _ _⟩
end Go.Proofs.YtaokemapkgggoaaGreatDoor

namespace Go.Proofs.YtaokemapkgggoaaGreatDoor
open Go.RowKit

theorem arr9b : ArrT Tryz.prog 89 9 (.int .u8 0) := ⟨⟨5, by kernel_rfl⟩, by kernel_rfl⟩
theorem arr100b : ArrT Tryz.prog 93 100 (.int .u8 0) := ⟨⟨5, by kernel_rfl⟩, by kernel_rfl⟩

set_option maxRecDepth 100000 in
set_option maxHeartbeats 1000000 in
theorem prog_pinOf_no (s : ByteArray) (w : World) (hs : s.size < 1 ∨ 8 < s.size) :
    Calls Tryz.prog 50 #[.string s] w fun r w' => r = .returned (.tuple #[.agg (zrow 9 (.int .u8 0)).toArray, .bool false]) ∧ Below w.heap.size w w' := by
  by_cases h0 : s.size = 0
  · obtain rfl := empty_of_size h0
    go_enter Tryz.func50, Tryz.ntmps50
    go_wp2_with (first | (refine wpList_allocR rfl 89 rfl 9 (.int .u8 0) arr9b ?_; go_simp) | (refine wpList_loadR rfl 89 _ rfl (w.heap.size + 1) rfl 89 (zrow 9 (.int .u8 0)) 9 (.int .u8 0) (Row.made1 _ _ _ _) arr9b (zrow_length _ _) ?_; go_simp) | (refine wpList_storeR rfl 89 _ _ rfl w.heap.size rfl (zrow 9 (.int .u8 0)) rfl 89 (zrow 9 (.int .u8 0)) 9 (.int .u8 0) ((Row.made _ _ _).alloc _) arr9b (zrow_length _ _) (zrow_length _ _) (by rw [zrow_u8]; exact u8s_one _) ?_; go_simp))
    refine bodyPost_ret (v := .tuple #[.agg (zrow 9 (.int .u8 0)).toArray, .bool false]) (results_row2 Tryz.results50 _ _ w.heap.size 89 (zrow 9 (.int .u8 0)) 9 (.int .u8 0) (.bool false) rfl rfl (Row.setRow ((Row.made _ _ _).alloc _) _) arr9b (zrow_length _ _)) rfl ⟨rfl, ?_⟩
    exact below_setRow (((Below.refl _ _).alloc (Nat.le_refl _) _).alloc (by simp) _) (Nat.le_refl _) _
  · have h8 : 9 ≤ s.size := by omega
    have hne := toList_ne_nil h0
    go_enter Tryz.func50, Tryz.ntmps50
    go_wp2_with (first | (refine wpList_allocR rfl 89 rfl 9 (.int .u8 0) arr9b ?_; go_simp) | (go_at_call 67; refine (prog_fill_no s _ _ 9 h8).mono ?_; rintro _ w9 ⟨rfl, e9⟩; rw [e9]; clear e9 w9) | (refine wpList_loadR rfl 89 _ rfl (w.heap.size + 1) rfl 89 (zrow 9 (.int .u8 0)) 9 (.int .u8 0) (Row.made1 _ _ _ _) arr9b (zrow_length _ _) ?_; go_simp) | (refine wpList_storeR rfl 89 _ _ rfl w.heap.size rfl (zrow 9 (.int .u8 0)) rfl 89 (zrow 9 (.int .u8 0)) 9 (.int .u8 0) ((Row.made _ _ _).alloc _) arr9b (zrow_length _ _) (zrow_length _ _) (by rw [zrow_u8]; exact u8s_one _) ?_; go_simp))
    refine bodyPost_ret (v := .tuple #[.agg (zrow 9 (.int .u8 0)).toArray, .bool false]) (results_row2 Tryz.results50 _ _ w.heap.size 89 (zrow 9 (.int .u8 0)) 9 (.int .u8 0) (.bool false) rfl rfl (Row.setRow ((Row.made _ _ _).alloc _) _) arr9b (zrow_length _ _)) rfl ⟨rfl, ?_⟩
    exact below_setRow (((Below.refl _ _).alloc (Nat.le_refl _) _).alloc (by simp) _) (Nat.le_refl _) _

set_option maxRecDepth 100000 in
set_option maxHeartbeats 1000000 in
theorem prog_pinOf_yes (s : ByteArray) (w : World) (h1 : 1 ≤ s.size) (h2 : s.size ≤ 8) :
    Calls Tryz.prog 50 #[.string s] w fun r w' => r = .returned (.tuple #[.agg (u8s (fieldOf 9 s.data.toList)).toArray, .bool true]) ∧ Below w.heap.size w w' := by
  obtain ⟨b, HB⟩ : ∃ b, Hid (b = fieldOf 9 s.data.toList) := ⟨_, rfl⟩
  have HL : Hid ((u8s b).length = 9) := by show _ = _; rw [HB.out, u8s_length, fieldOf_length _ _ (by omega)]
  have hne := toList_ne_nil (p := s) (by omega)
  go_enter Tryz.func50, Tryz.ntmps50
  go_wp2_with (first | (refine wpList_allocR rfl 89 rfl 9 (.int .u8 0) arr9b ?_; go_simp) | (go_at_call 67; refine (prog_fill_yes s _ (w.heap.size + 1) 9 89 (Row.made1 _ _ _ _) (by omega) (by omega) (by omega)).mono ?_; rintro _ w1 ⟨rfl, hr1, hb1⟩; rw [← HB.out] at hr1; have ho : Row w1 w.heap.size (zrow 9 (.int .u8 0)) 89 := ((Row.made w _ _).alloc _).below hb1 (Nat.lt_succ_self _); have hw : Below w.heap.size w w1 := (((Below.refl _ _).alloc (Nat.le_refl _) _).alloc (by simp) _).trans (hb1.mono (Nat.le_succ _)); clear hb1) | (refine wpList_loadR rfl 89 _ rfl (w.heap.size + 1) rfl 89 (u8s b) 9 (.int .u8 0) hr1 arr9b HL.out ?_; go_simp) | (refine wpList_storeR rfl 89 _ _ rfl w.heap.size rfl (u8s b) rfl 89 (zrow 9 (.int .u8 0)) 9 (.int .u8 0) ho arr9b HL.out (zrow_length _ _) (u8s_one _) ?_; go_simp))
  refine bodyPost_ret (v := .tuple #[.agg (u8s b).toArray, .bool true]) (results_row2 Tryz.results50 _ _ w.heap.size 89 (u8s b) 9 (.int .u8 0) (.bool true) rfl rfl (Row.setRow ho _) arr9b HL.out) rfl ⟨by rw [HB.out], ?_⟩
  exact below_setRow hw (Nat.le_refl _) _

set_option maxRecDepth 100000 in
set_option maxHeartbeats 1000000 in
theorem prog_slotOf_no (s : ByteArray) (w : World) (h : s.size = 0 ∨ 4 ≤ hd0 s) :
    Calls Tryz.prog 113 #[.string s] w fun r w' => r = .returned (.tuple #[.int .i64 0, .string ⟨#[]⟩, .bool false]) ∧ w' = w := by
  by_cases h0 : s.size = 0
  · obtain rfl := empty_of_size h0
    go_enter Tryz.func113, Tryz.ntmps113
    go_wp2
    go_ret3
    exact ⟨rfl, rfl⟩
  · have hby := byte_at (s := s) (i := 0) (by omega)
    have h4 : 4 ≤ hd0 s := by omega
    unfold hd0 at h4
    have hne := toList_ne_nil h0
    obtain ⟨b0, b1⟩ := getD_isB (bytesI_B s.data.toList) 0
    generalize (bytesI s.data.toList).getD 0 0 = x at *
    have h4' : (4 : Int) ≤ x := by omega
    have hps : (0 : Int) < s.size := by omega
    go_enter Tryz.func113, Tryz.ntmps113
    go_wp2
    go_ret3
    exact ⟨rfl, rfl⟩

set_option maxRecDepth 100000 in
set_option maxHeartbeats 1000000 in
theorem prog_slotOf_yes (s : ByteArray) (w : World) (h : ¬ (s.size = 0 ∨ 4 ≤ hd0 s)) :
    Calls Tryz.prog 113 #[.string s] w fun r w' => r = .returned (.tuple #[.int .i64 (hd0 s : Nat), .string (rest1 s), .bool true]) ∧ Below w.heap.size w w' := by
  have h0 : ¬ s.size = 0 := fun e => h (.inl e)
  have hby := byte_at (s := s) (i := 0) (by omega)
  have h4 : ¬ 4 ≤ hd0 s := fun e => h (.inr e)
  have hne := toList_ne_nil h0
  have hx : ((hd0 s : Nat) : Int) = (bytesI s.data.toList).getD 0 0 := by have := getD_isB (bytesI_B s.data.toList) 0; unfold hd0; unfold isB at this; omega
  rw [← hx] at hby
  clear hx h
  have hps : (0 : Int) < s.size := by omega
  have hps1 : (1 : Int) ≤ s.size := by omega
  have h4' : ¬ (4 : Int) ≤ (hd0 s : Nat) := by omega
  have hr1 : s.extract 1 s.size = rest1 s := rfl
  generalize hd0 s = n at *
  generalize rest1 s = q at *
  go_enter Tryz.func113, Tryz.ntmps113
  go_wp2
  go_quiet (fail)
  go_wp2
  go_ret3
  exact ⟨rfl, below_drewN (Below.refl _ _) _⟩
end Go.Proofs.YtaokemapkgggoaaGreatDoor
