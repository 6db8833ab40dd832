import Derived.Test.YtaokemapkgggoaaGreatDoorAl26
import Derived.Test.YtaokemapkgggoaaGreatDoorAl25
namespace Go.Proofs.YtaokemapkgggoaaGreatDoor
open Go.RowKit

set_option maxRecDepth 100000 in
set_option maxHeartbeats 1000000 in
theorem prog_code_locked (w : World) (g j : Nat) (d : Dv) (p : ByteArray) (h : PdAt w g d) (f : d.fit) (hu : d.unl = false) :
    Calls Tryz.prog 107 #[.pointer (some ⟨g, 0, none⟩), .pointer (some ⟨j, 0, none⟩), .string p] w fun r w' => r = .returned (.tuple #[.int .u8 2, .string ⟨#[]⟩]) ∧ Below w.heap.size w w' := by
  go_enter Tryz.func107, Tryz.ntmps107
  go_wp2_with (first | (go_at_call 113; refine (prog_slotOf_any p w).mono ?_; rintro _ w1 ⟨n1, q1, b1, rfl, hb1⟩; have cu := (h.below hb1 h.lt).cu f; rw [hu] at cu))
  go_ret2
  exact ⟨rfl, hb1⟩

set_option maxRecDepth 100000 in
set_option maxHeartbeats 1000000 in
theorem prog_code_wrong (w : World) (g j : Nat) (d : Dv) (p : ByteArray) (h : PdAt w g d) (f : d.fit) (hu : d.unl = true) (hp : p.size = 0 ∨ 4 ≤ hd0 p) :
    Calls Tryz.prog 107 #[.pointer (some ⟨g, 0, none⟩), .pointer (some ⟨j, 0, none⟩), .string p] w fun r w' => r = .returned (.tuple #[.int .u8 4, .string ⟨#[]⟩]) ∧ Below w.heap.size w w' := by
  have cu := h.cu f
  rw [hu] at cu
  go_enter Tryz.func107, Tryz.ntmps107
  go_wp2_with (first | (go_at_call 113; refine (prog_slotOf_no p w hp).mono ?_; rintro _ w9 ⟨rfl, e9⟩; rw [e9]; clear e9 w9))
  go_ret2
  exact ⟨rfl, Below.refl _ _⟩

set_option maxRecDepth 100000 in
set_option maxHeartbeats 1000000 in
theorem prog_code_eight (w : World) (g j : Nat) (d : Dv) (p : ByteArray) (h : PdAt w g d) (f : d.fit) (hu : d.unl = true) (hp : ¬ (p.size = 0 ∨ 4 ≤ hd0 p)) (h8 : ¬ (rest1 p).size = 8) :
    Calls Tryz.prog 107 #[.pointer (some ⟨g, 0, none⟩), .pointer (some ⟨j, 0, none⟩), .string p] w fun r w' => r = .returned (.tuple #[.int .u8 4, .string ⟨#[]⟩]) ∧ Below w.heap.size w w' := by
  have hcs := prog_slotOf_yes p w hp
  have h8' : ¬ ((rest1 p).size : Int) = 8 := by omega
  clear hp
  generalize hd0 p = n at *
  generalize rest1 p = q at *
  go_enter Tryz.func107, Tryz.ntmps107
  go_wp2_with (first | (go_at_call 113; refine hcs.mono ?_; rintro _ w1 ⟨rfl, hb1⟩; have cu := (h.below hb1 h.lt).cu f; rw [hu] at cu))
  go_ret2
  exact ⟨rfl, hb1⟩

set_option maxRecDepth 100000 in
set_option maxHeartbeats 1000000 in
theorem prog_code_none (w : World) (g j : Nat) (d : Dv) (x : UInt8) (p : ByteArray) (h : PdAt w g d) (f : d.fit) (ok : d.sound) (hu : d.unl = true) (hp : ¬ (p.size = 0 ∨ 4 ≤ hd0 p)) (hW : Row w j (bcells (d.k.raw x)) 93) (hk : (d.k.key (hd0 p)).size = 0) (h8 : (rest1 p).size = 8) :
    Calls Tryz.prog 107 #[.pointer (some ⟨g, 0, none⟩), .pointer (some ⟨j, 0, none⟩), .string p] w fun r w' => r = .returned (.tuple #[.int .u8 5, .string ⟨#[]⟩]) ∧ Below w.heap.size w w' := by
  have hn : hd0 p < 4 := by omega
  have hk0 : Hid (bAt (d.k.raw x) (15 + 21 * hd0 p) = 0) := by show _ = _; rw [Kep.raw_key0 ok.good _ hn, hk]; rfl
  have hcs := prog_slotOf_yes p w hp
  clear hp hk
  have h8' : ((rest1 p).size : Int) = 8 := by omega
  generalize hd0 p = n at *
  generalize rest1 p = q at *
  go_enter Tryz.func107, Tryz.ntmps107
  go_wp2_with (first | (go_at_call 113; refine hcs.mono ?_; rintro _ w1 ⟨rfl, hb1⟩; have cu := (h.below hb1 h.lt).cu f; rw [hu] at cu; have c0 := (ImgAt.of_row (hW.below hb1 hW.lt) (Kep.raw_length ok.good)).b (15 + 21 * n) (by omega); rw [Nat.zero_add, hk0.out] at c0) | (go_at_call 97; refine (prog_key w1 j 0 n hn).mono ?_; rintro _ w9 ⟨rfl, e9⟩; rw [e9]; clear e9 w9) | (go_at_call 45; refine (prog_none_yes w1 j _ c0).mono ?_; rintro _ w9 ⟨rfl, e9⟩; rw [e9]; clear e9 w9))
  go_ret2
  exact ⟨rfl, hb1⟩

set_option maxRecDepth 100000 in
set_option maxHeartbeats 1000000 in
theorem prog_code_told (w : World) (g j : Nat) (d : Dv) (x : UInt8) (p : ByteArray) (h : PdAt w g d) (f : d.fit) (ok : d.sound) (hG : Glob w) (hu : d.unl = true) (hp : ¬ (p.size = 0 ∨ 4 ≤ hd0 p)) (hW : Row w j (bcells (d.k.raw x)) 93) (hk : ¬ (d.k.key (hd0 p)).size = 0) (h8 : (rest1 p).size = 8) :
    Calls Tryz.prog 107 #[.pointer (some ⟨g, 0, none⟩), .pointer (some ⟨j, 0, none⟩), .string p] w fun r w' => r = .returned (.tuple #[.int .u8 0, .string (str (toBytes (digL (refWord (refSeal sumSpecRef (Bs (d.k.key (hd0 p))) (Bs (rest1 p)))) 6)))]) ∧ Below w.heap.size w w' := by
  have hn : hd0 p < 4 := by omega
  have hkz := ok.good.key (hd0 p)
  have hk0 : Hid (bAt (d.k.raw x) (15 + 21 * hd0 p) = (d.k.key (hd0 p)).size) := Kep.raw_key0 ok.good _ hn
  have hk0' : ¬ ((d.k.key (hd0 p)).size : Int) = 0 := by omega
  obtain ⟨kf, HK⟩ : ∃ kf, Hid (kf = fieldOf 21 (Bs (d.k.key (hd0 p)))) := ⟨_, rfl⟩
  have hlk' : (Bs (d.k.key (hd0 p))).length < 21 := by rw [Bs_len]; omega
  have hkl : Hid ((u8s kf).length = 21) := by show _ = _; rw [u8s_length, HK.out, fieldOf_length _ _ (by omega)]
  have hkB : ∀ x ∈ kf, isB x := by rw [HK.out]; exact fieldOf_B _ _ (by omega)
  have hkt : Hid (kf.tail = blk 20 (Bs (d.k.key (hd0 p)))) := by show _ = _; rw [HK.out]; rfl
  have hkc : Hid (bcells (fieldAt (d.k.raw x) (15 + 21 * hd0 p) 21) = u8s kf) := by show _ = _; rw [Kep.raw_keyAt ok.good _ hn, HK.out, field_cellsB 21 _ hlk' (by omega)]
  have hcs := prog_slotOf_yes p w hp
  obtain ⟨ov, HO⟩ : ∃ ov, Hid (ov = codeSpecL kf.tail (Bs (rest1 p))) := ⟨_, rfl⟩
  have HR : Hid (strOfNums ov = str (toBytes (digL (refWord (refSeal sumSpecRef (Bs (d.k.key (hd0 p))) (Bs (rest1 p)))) 6))) := by
    show _ = _
    rw [HO.out, hkt.out, strOfNums_str, refSeal_eq (by omega), digL_eq]
    rfl
  rw [← HR.out]
  have hi79 : (Tryz.prog.info? 79).map (·.size) = some (u8s kf).length := by rw [hkl.out]; exact arr21b.size
  clear hp hk hkz hlk'
  have h8' : ((rest1 p).size : Int) = 8 := by omega
  generalize (d.k.key (hd0 p)).size = ks at *
  generalize hd0 p = n at *
  generalize rest1 p = q at *
  go_enter Tryz.func107, Tryz.ntmps107
  go_wp2_with (first | (go_at_call 113; refine hcs.mono ?_; rintro _ w1 ⟨rfl, hb1⟩; have cu := (h.below hb1 h.lt).cu f; rw [hu] at cu; have hW1 := hW.below hb1 hW.lt; have c0 := (ImgAt.of_row hW1 (Kep.raw_length ok.good)).b (15 + 21 * n) (by omega); rw [Nat.zero_add, hk0.out] at c0; have hrg : w1.rangeAt j (15 + 21 * n) (u8s kf) := (by have := range_sub (ImgAt.of_row hW1 (Kep.raw_length ok.good)).at_ (15 + 21 * n) 21; rw [Nat.zero_add] at this; rw [← hkc.out]; exact this)) | (go_at_call 97; refine (prog_key w1 j 0 n hn).mono ?_; rintro _ w9 ⟨rfl, e9⟩; rw [e9]; clear e9 w9) | (go_at_call 45; refine (prog_none_no w1 j _ _ hk0' c0).mono ?_; rintro _ w9 ⟨rfl, e9⟩; rw [e9]; clear e9 w9) | (refine wpList_load_mid rfl 79 _ rfl j (15 + 21 * n) rfl (u8s kf) _ hrg under21b rfl hi79 ?_; go_simp) | (go_at_call 49; refine (prog_codeBy kf _ _ (hG.below hb1 (Nat.le_refl _)) (by rw [← u8s_length]; exact hkl.out) hkB (by omega)).mono ?_; rintro _ w4 ⟨rfl, hb4⟩; rw [← HO.out]; have dw := hb1.trans (hb4.mono hb1.size); clear hb4))
  go_ret2
  exact ⟨rfl, dw⟩

/-- a code, by the document's device -/
theorem prog_codeD (w : World) (g j : Nat) (d : Dv) (x : UInt8) (p : ByteArray) (h : PdAt w g d) (f : d.fit) (ok : d.sound) (hG : Glob w) (hW : Row w j (bcells (d.k.raw x)) 93) :
    Calls Tryz.prog 107 #[.pointer (some ⟨g, 0, none⟩), .pointer (some ⟨j, 0, none⟩), .string p] w fun r w' => r = .returned (.tuple #[.int .u8 (d.command 5 p).2.1, .string (str (d.command 5 p).2.2)]) ∧ (d.command 5 p).1 = d ∧ Below w.heap.size w w' := by
  have e : d.command 5 p = d.slot 5 p := by unfold Dv.command; rw [if_neg (by omega), if_neg (by omega), if_neg (by omega), if_pos (by omega)]
  rw [e]
  unfold Dv.slot
  by_cases hu : d.unl = false
  · rw [if_pos hu]
    refine (prog_code_locked w g j d p h f hu).mono ?_
    rintro r w' ⟨rfl, hb⟩
    exact ⟨rfl, rfl, hb⟩
  · have hu' : d.unl = true := by simpa using hu
    rw [if_neg hu]
    by_cases hp : p.size = 0 ∨ 4 ≤ hd0 p
    · rw [if_pos hp]
      refine (prog_code_wrong w g j d p h f hu' hp).mono ?_
      rintro r w' ⟨rfl, hb⟩
      exact ⟨rfl, rfl, hb⟩
    · rw [if_neg hp, if_neg (by omega), if_neg (by omega), if_neg (by omega)]
      by_cases h8 : (rest1 p).size = 8
      · rw [if_neg (by omega)]
        by_cases hk : (d.k.key (hd0 p)).size = 0
        · rw [if_pos hk]
          refine (prog_code_none w g j d x p h f ok hu' hp hW hk h8).mono ?_
          rintro r w' ⟨rfl, hb⟩
          exact ⟨rfl, rfl, hb⟩
        · rw [if_neg hk, if_pos rfl]
          refine (prog_code_told w g j d x p h f ok hG hu' hp hW hk h8).mono ?_
          rintro r w' ⟨rfl, hb⟩
          exact ⟨rfl, rfl, hb⟩
      · rw [if_pos ⟨rfl, h8⟩]
        refine (prog_code_eight w g j d p h f hu' hp h8).mono ?_
        rintro r w' ⟨rfl, hb⟩
        exact ⟨rfl, rfl, hb⟩
end Go.Proofs.YtaokemapkgggoaaGreatDoor

namespace Go.Proofs.YtaokemapkgggoaaGreatDoor
open Go.RowKit

theorem whole_of {c : Int} (h : ¬ (0 ≤ c ∧ c < 101)) (h1 : c ≤ 9223372036854775807) : whole c := by unfold whole; omega
theorem ref_unlockC (w : World) (g : Nat) (d : Dv) (p : ByteArray) (h : DvAt w g d) (S : d.sound) (hp : p.size < 1000000) :
    Calls Tryz.prog 81 #[.pointer (some ⟨g, 0, none⟩), .string p] w (Left g w (d.unlockC p)) := by
  have hearly : (p.size < 1 ∨ 8 < p.size) ∨ d.k.tries = 0 ∨ 4294967295 ≤ d.k.num → d.unlock p = d.unlockC p := by
    intro he
    unfold Dv.unlock Dv.unlockC
    by_cases h1 : p.size < 1 ∨ 8 < p.size
    · rw [if_pos h1, if_pos h1]
    · rw [if_neg h1, if_neg h1]
      by_cases h2 : d.k.tries = 0
      · rw [if_pos h2, if_pos h2]
      · rw [if_neg h2, if_neg h2]
        rcases he with e | e | e
        · exact absurd e h1
        · exact absurd e h2
        · rw [if_pos e, if_pos e]
  by_cases he : (p.size < 1 ∨ 8 < p.size) ∨ d.k.tries = 0 ∨ 4294967295 ≤ d.k.num
  · rw [← hearly he]
    exact ref_unlock_early w g d p h hp he
  · have h1 : ¬ (p.size < 1 ∨ 8 < p.size) := fun e => he (.inl e)
    have ht : ¬ d.k.tries = 0 := fun e => he (.inr (.inl e))
    have hw : ¬ 4294967295 ≤ d.k.num := fun e => he (.inr (.inr e))
    have hs1 : 1 ≤ p.size := by omega
    have hs2 : p.size ≤ 8 := by omega
    have hgl : d.k.less.good := less_goodS S.good ht
    have SW : (d.wrote d.k.less).sound := S.wrote hw hgl S.p0
    unfold Dv.unlockC
    rw [if_neg h1, if_neg ht, if_neg hw]
    by_cases hc : 0 ≤ d.cut ∧ d.cut < 101
    · rw [if_pos hc]
      exact ref_unlockT_first w g d p h S hc hs1 hs2 ht hw
    · rw [if_neg hc]
      have hcw := whole_of hc S.c1
      by_cases hq : p = d.k.pin
      · rw [if_neg (fun e => e hq)]
        by_cases hw2 : 4294967295 ≤ d.k.num + 1
        · rw [if_pos hw2]
          have := ref_unlockW_worn w g d p h S hcw hs1 hs2 ht hw hq hw2
          rw [show d.unlock p = ((d.wrote d.k.less).lock, 7, []) by unfold Dv.unlock; rw [if_neg h1, if_neg ht, if_neg hw, if_neg (fun e => e hq), if_pos hw2]] at this
          exact this
        · rw [if_neg hw2]
          by_cases hc2 : 0 ≤ (d.wrote d.k.less).cut ∧ (d.wrote d.k.less).cut < 101
          · rw [if_pos hc2]
            exact ref_unlockT_yes w g d p h S hcw hc2 SW hs1 hs2 ht hw hq hw2
          · rw [if_neg hc2]
            have := ref_unlockW_yes w g d p h S hcw (whole_of hc2 SW.c1) hs1 hs2 ht hw hq hw2
            rw [show d.unlock p = (((d.wrote d.k.less).wrote d.k.less.full).open, 0, []) by unfold Dv.unlock; rw [if_neg h1, if_neg ht, if_neg hw, if_neg (fun e => e hq), if_neg hw2]] at this
            exact this
      · rw [if_pos hq]
        by_cases hz : d.k.tries - 1 = 0
        · by_cases hw2 : 4294967295 ≤ d.k.num + 1
          · rw [if_neg (fun e => e.2 hw2)]
            have := ref_unlockW_noB w g d p h S hcw hs1 hs2 ht hw hq hz hw2
            rw [show d.unlock p = ((d.wrote d.k.less).lock, 3, [b8 (d.k.tries - 1)]) by unfold Dv.unlock; rw [if_neg h1, if_neg ht, if_neg hw, if_pos hq, if_neg (fun e => e.2 hw2)]] at this
            exact this
          · rw [if_pos ⟨hz, hw2⟩]
            unfold Dv.put
            by_cases hc2 : 0 ≤ (d.wrote d.k.less).cut ∧ (d.wrote d.k.less).cut < 101
            · rw [if_pos (show 0 ≤ (d.wrote d.k.less).lock.cut ∧ (d.wrote d.k.less).lock.cut < 101 from hc2)]
              exact ref_unlockT_noC w g d p h S hcw hc2 SW hs1 hs2 ht hw hq hz hw2
            · rw [if_neg (show ¬ (0 ≤ (d.wrote d.k.less).lock.cut ∧ (d.wrote d.k.less).lock.cut < 101) from hc2)]
              have := ref_unlockW_noC w g d p h S hcw (whole_of hc2 SW.c1) hs1 hs2 ht hw hq hz hw2
              rw [show d.unlock p = ((d.wrote d.k.less).lock.wrote d.k.less.bare, 3, [b8 (d.k.tries - 1)]) by unfold Dv.unlock; rw [if_neg h1, if_neg ht, if_neg hw, if_pos hq, if_pos ⟨hz, hw2⟩]] at this
              exact this
        · rw [if_neg (fun e => hz e.1)]
          have := ref_unlockW_noA w g d p h S hcw hs1 hs2 ht hw hq hz
          rw [show d.unlock p = ((d.wrote d.k.less).lock, 3, [b8 (d.k.tries - 1)]) by unfold Dv.unlock; rw [if_neg h1, if_neg ht, if_neg hw, if_pos hq, if_neg (fun e => hz e.1)]] at this
          exact this

/-- what is asked of a slot, wherever the power goes -/
def Dv.slotC (d : Dv) (kind : Int) (p : ByteArray) : Dv × Int × List UInt8 :=
  if kind = 3 ∧ d.unl = true ∧ ¬ (p.size = 0 ∨ 4 ≤ hd0 p) ∧ ¬ 20 < (rest1 p).size ∧ ¬ 4294967295 ≤ d.k.num then (d.put (d.k.put (hd0 p) (rest1 p)), 0, [])
  else d.slot kind p
/-- a command, wherever the power goes -/
def Dv.commandC (d : Dv) (kind : Int) (p : ByteArray) : Dv × Int × List UInt8 :=
  if kind = 1 then d.unlockC p
  else if kind = 3 ∨ kind = 4 ∨ kind = 5 then d.slotC kind p
  else if kind = 6 ∧ d.unl = true ∧ ¬ (p.size < 1 ∨ 8 < p.size) ∧ ¬ 4294967295 ≤ d.k.num then (d.put (d.k.withPin p), 0, [])
  else d.command kind p
theorem Dv.sound.fairPut {d : Dv} (h : d.sound) (n : Nat) (q : ByteArray) (hq : q.size ≤ 20) : (d.k.put n q).fair := by
  have f : d.k.fair := ⟨by have := h.n0; omega, by have := h.n1; omega, by have := h.t0; omega, by have := h.t1; omega, by have := h.p1; omega, by have := h.k0; omega, by have := h.k1; omega, by have := h.k2; omega, by have := h.k3; omega⟩
  unfold Kep.put
  repeat' split
  · exact ⟨f.n0, f.n1, f.t0, f.t1, f.pin, by show q.size < _; omega, f.k1, f.k2, f.k3⟩
  · exact ⟨f.n0, f.n1, f.t0, f.t1, f.pin, f.k0, by show q.size < _; omega, f.k2, f.k3⟩
  · exact ⟨f.n0, f.n1, f.t0, f.t1, f.pin, f.k0, f.k1, by show q.size < _; omega, f.k3⟩
  · exact ⟨f.n0, f.n1, f.t0, f.t1, f.pin, f.k0, f.k1, f.k2, by show q.size < _; omega⟩
theorem Dv.sound.fair {d : Dv} (h : d.sound) : d.k.fair := ⟨by have := h.n0; omega, by have := h.n1; omega, by have := h.t0; omega, by have := h.t1; omega, by have := h.p1; omega, by have := h.k0; omega, by have := h.k1; omega, by have := h.k2; omega, by have := h.k3; omega⟩
theorem put_goodS {k : Kep} {i : Nat} {q : ByteArray} (h : k.good) (hq : q.size ≤ 20) : (k.put i q).good := by
  unfold Kep.put
  repeat' split
  · exact ⟨h.n0, h.n1, h.t0, h.t1, h.pin, hq, h.k1, h.k2, h.k3⟩
  · exact ⟨h.n0, h.n1, h.t0, h.t1, h.pin, h.k0, hq, h.k2, h.k3⟩
  · exact ⟨h.n0, h.n1, h.t0, h.t1, h.pin, h.k0, h.k1, hq, h.k3⟩
  · exact ⟨h.n0, h.n1, h.t0, h.t1, h.pin, h.k0, h.k1, h.k2, hq⟩

set_option maxRecDepth 100000 in
set_option maxHeartbeats 1000000 in
theorem ref_slotC_set (w : World) (g : Nat) (d : Dv) (p : ByteArray) (h : DvAt w g d) (ok : d.sound) (hu : ¬ d.unl = false) (hb : ¬ (p.size = 0 ∨ 4 ≤ hd0 p)) (hp : p.size < 1000000) (hl : ¬ 20 < (rest1 p).size) (hw : ¬ 4294967295 ≤ d.k.num) :
    Calls Tryz.prog 82 #[.pointer (some ⟨g, 0, none⟩), .int .i64 3, .string p] w (Left g w (d.put (d.k.put (hd0 p) (rest1 p)), 0, [])) := by
  obtain ⟨c0, c1, c2, c3, c4, c5, c6, c7, c8, c9, c10, c11, -⟩ := h.c
  rw [show d.unl = true by simpa using hu] at c11
  have h0 : ¬ p.size = 0 := fun e => hb (.inl e)
  have hpos : 0 < p.size := by omega
  have hby := byte_at hpos
  have hbd := getD_isB (bytesI_B p.data.toList) 0
  have h4 : ¬ 4 ≤ hd0 p := fun e => hb (.inr e)
  have hne := toList_ne_nil h0
  obtain ⟨b0, b1⟩ := hbd
  have hx : ((hd0 p : Nat) : Int) = (bytesI p.data.toList).getD 0 0 := by unfold hd0; omega
  rw [← hx] at hby b0 b1
  clear hx h0 hb
  have hps : (0 : Int) < p.size := by omega
  have hps1 : (1 : Int) ≤ p.size := by omega
  have h4' : ¬ (4 : Int) ≤ (hd0 p : Nat) := by omega
  have hr1 : p.extract 1 p.size = rest1 p := rfl
  have hrs : (rest1 p).size < 1000000 := by unfold rest1; rw [ByteArray.size_extract]; omega
  generalize hd0 p = n at *
  generalize rest1 p = q at *
  have hl' : ¬ (20 : Int) < q.size := by omega
  have hgl : g < w.heap.size := h.lt
  have hne1 : ¬ g = w.heap.size := by omega
  have hne2 : ¬ w.heap.size = g := by omega
  have hfair := ok.fairPut n q (by omega)
  have hgn := ok.next hw (put_goodS (i := n) ok.good (show q.size ≤ 20 by omega))
  have hn0 : 0 ≤ d.k.num := by have := ok.n0; omega
  have hn1 : d.k.num < 4294967296 := by have := ok.n1; omega
  rcases (by omega : n = 0 ∨ n = 1 ∨ n = 2 ∨ n = 3) with rfl | rfl | rfl | rfl
  · go_enter Tryz.func82, Tryz.ntmps82
    go_wp2_with (first | (go_at_call 83; refine (ref_worn w g _ h).mono ?_; rintro _ w9 ⟨rfl, e9⟩; rw [e9]; clear e9 w9) | (go_at_call 84; refine (ref_put _ g d (d.k.put 0 q) (Row.alloc h _) hfair hn0 hn1 ok.wh ok.c1 ok.s0 ok.s1 hgn).mono ?_; rintro _ w2 ⟨rfl, hd2, hg2⟩))
    go_ret2
    exact ⟨rfl, hd2, (World.grownBy_alloc w _ _).trans hg2⟩
  · go_enter Tryz.func82, Tryz.ntmps82
    go_wp2_with (first | (go_at_call 83; refine (ref_worn w g _ h).mono ?_; rintro _ w9 ⟨rfl, e9⟩; rw [e9]; clear e9 w9) | (go_at_call 84; refine (ref_put _ g d (d.k.put 1 q) (Row.alloc h _) hfair hn0 hn1 ok.wh ok.c1 ok.s0 ok.s1 hgn).mono ?_; rintro _ w2 ⟨rfl, hd2, hg2⟩))
    go_ret2
    exact ⟨rfl, hd2, (World.grownBy_alloc w _ _).trans hg2⟩
  · go_enter Tryz.func82, Tryz.ntmps82
    go_wp2_with (first | (go_at_call 83; refine (ref_worn w g _ h).mono ?_; rintro _ w9 ⟨rfl, e9⟩; rw [e9]; clear e9 w9) | (go_at_call 84; refine (ref_put _ g d (d.k.put 2 q) (Row.alloc h _) hfair hn0 hn1 ok.wh ok.c1 ok.s0 ok.s1 hgn).mono ?_; rintro _ w2 ⟨rfl, hd2, hg2⟩))
    go_ret2
    exact ⟨rfl, hd2, (World.grownBy_alloc w _ _).trans hg2⟩
  · go_enter Tryz.func82, Tryz.ntmps82
    go_wp2_with (first | (go_at_call 83; refine (ref_worn w g _ h).mono ?_; rintro _ w9 ⟨rfl, e9⟩; rw [e9]; clear e9 w9) | (go_at_call 84; refine (ref_put _ g d (d.k.put 3 q) (Row.alloc h _) hfair hn0 hn1 ok.wh ok.c1 ok.s0 ok.s1 hgn).mono ?_; rintro _ w2 ⟨rfl, hd2, hg2⟩))
    go_ret2
    exact ⟨rfl, hd2, (World.grownBy_alloc w _ _).trans hg2⟩

theorem ref_slotC (hsum : SumSaid sumSpecRef) (w : World) (g : Nat) (d : Dv) (kind : Int) (p : ByteArray) (h : DvAt w g d) (ok : d.sound) (hS : Summ w d.sm) (hp : p.size < 80000) (hk : kind = 3 ∨ kind = 4 ∨ kind = 5) :
    Calls Tryz.prog 82 #[.pointer (some ⟨g, 0, none⟩), .int .i64 kind, .string p] w (Left g w (d.slotC kind p)) := by
  unfold Dv.slotC
  by_cases hx : kind = 3 ∧ d.unl = true ∧ ¬ (p.size = 0 ∨ 4 ≤ hd0 p) ∧ ¬ 20 < (rest1 p).size ∧ ¬ 4294967295 ≤ d.k.num
  · rw [if_pos hx]
    obtain ⟨rfl, hu, hb, hl, hw⟩ := hx
    exact ref_slotC_set w g d p h ok (by simp [hu]) hb (by omega) hl hw
  · rw [if_neg hx]
    by_cases hu : d.unl = false
    · exact ref_slot_locked w g d kind p h hu
    · have hu' : d.unl = true := by simpa using hu
      by_cases hb : p.size = 0 ∨ 4 ≤ hd0 p
      · exact ref_slot_bad w g d kind p h hu hb (by omega)
      · rcases hk with rfl | rfl | rfl
        · by_cases hl : 20 < (rest1 p).size
          · exact ref_slot_long w g d p h hu hb (by omega) hl
          · by_cases hw : 4294967295 ≤ d.k.num
            · exact ref_slot_worn w g d p h hu hb (by omega) hl hw
            · exact absurd ⟨rfl, hu', hb, hl, hw⟩ hx
        · by_cases hk : (d.k.key (hd0 p)).size = 0
          · exact ref_slot_none4 w g d p h hu hb (by omega) hk
          · exact ref_slot_told4 hsum w g d p h hS hu hb hp hk
        · by_cases hl : (rest1 p).size = 8
          · by_cases hk : (d.k.key (hd0 p)).size = 0
            · exact ref_slot_none5 w g d p h hu hb (by omega) hl hk
            · exact ref_slot_told5 hsum w g d p h hS hu hb hp hl hk
          · exact ref_slot_eight w g d p h hu hb (by omega) hl

set_option maxRecDepth 100000 in
set_option maxHeartbeats 1000000 in
theorem ref_commandC1 (w : World) (g : Nat) (d : Dv) (p : ByteArray) (h : DvAt w g d) (ok : d.sound) (hp : p.size < 80000) :
    Calls Tryz.prog 57 #[.pointer (some ⟨g, 0, none⟩), .int .i64 1, .string p] w (Left g w (d.commandC 1 p)) := by
  rw [show d.commandC 1 p = d.unlockC p by unfold Dv.commandC; rw [if_pos rfl]]
  go_enter Tryz.func57, Tryz.ntmps57
  go_wp2_with (go_at_call 81; refine (ref_unlockC w g d p h ok (by omega)).mono ?_; rintro _ w2 ⟨rfl, hd2, hg2⟩)
  go_ret2
  exact ⟨rfl, hd2, hg2⟩

set_option maxRecDepth 100000 in
set_option maxHeartbeats 1000000 in
theorem ref_commandC345 (hsum : SumSaid sumSpecRef) (w : World) (g : Nat) (d : Dv) (kind : Int) (p : ByteArray) (h : DvAt w g d) (ok : d.sound) (hS : Summ w d.sm) (hp : p.size < 80000) (hk : kind = 3 ∨ kind = 4 ∨ kind = 5) :
    Calls Tryz.prog 57 #[.pointer (some ⟨g, 0, none⟩), .int .i64 kind, .string p] w (Left g w (d.commandC kind p)) := by
  rw [show d.commandC kind p = d.slotC kind p by unfold Dv.commandC; rw [if_neg (by omega), if_pos hk]]
  have hs := ref_slotC hsum w g d kind p h ok hS hp hk
  rcases hk with rfl | rfl | rfl
  · go_enter Tryz.func57, Tryz.ntmps57
    go_wp2_with (go_at_call 82; refine hs.mono ?_; rintro _ w2 ⟨rfl, hd2, hg2⟩)
    go_ret2
    exact ⟨rfl, hd2, hg2⟩
  · go_enter Tryz.func57, Tryz.ntmps57
    go_wp2_with (go_at_call 82; refine hs.mono ?_; rintro _ w2 ⟨rfl, hd2, hg2⟩)
    go_ret2
    exact ⟨rfl, hd2, hg2⟩
  · go_enter Tryz.func57, Tryz.ntmps57
    go_wp2_with (go_at_call 82; refine hs.mono ?_; rintro _ w2 ⟨rfl, hd2, hg2⟩)
    go_ret2
    exact ⟨rfl, hd2, hg2⟩

theorem command6C (d : Dv) (p : ByteArray) : d.commandC 6 p = (if d.unl = false then (d, 2, []) else if p.size < 1 ∨ 8 < p.size then (d, 4, []) else if 4294967295 ≤ d.k.num then (d, 7, []) else (d.put (d.k.withPin p), 0, [])) := by
  have e : d.command 6 p = (if d.unl = false then (d, 2, []) else if p.size < 1 ∨ 8 < p.size then (d, 4, []) else if 4294967295 ≤ d.k.num then (d, 7, []) else (d.wrote (d.k.withPin p), 0, [])) := by unfold Dv.command; rw [if_neg (by omega), if_neg (by omega), if_neg (by omega), if_neg (by omega), if_pos rfl]
  unfold Dv.commandC
  rw [if_neg (by omega), if_neg (by omega), e]
  by_cases hu : d.unl = false
  · rw [if_neg (fun x => by rw [hu] at x; exact absurd x.2.1 (by simp))]
    simp only [if_pos hu]
  · have hu' : d.unl = true := by simpa using hu
    by_cases h1 : p.size < 1 ∨ 8 < p.size
    · rw [if_neg (fun x => x.2.2.1 h1)]
      simp only [if_neg hu, if_pos h1]
    · by_cases hw : 4294967295 ≤ d.k.num
      · rw [if_neg (fun x => x.2.2.2 hw)]
        simp only [if_neg hu, if_neg h1, if_pos hw]
      · rw [if_pos ⟨rfl, hu', h1, hw⟩]
        simp only [if_neg hu, if_neg h1, if_neg hw]

set_option maxRecDepth 100000 in
set_option maxHeartbeats 1000000 in
theorem ref_commandC6 (w : World) (g : Nat) (d : Dv) (p : ByteArray) (h : DvAt w g d) (ok : d.sound) (hp : p.size < 80000) :
    Calls Tryz.prog 57 #[.pointer (some ⟨g, 0, none⟩), .int .i64 6, .string p] w (Left g w (d.commandC 6 p)) := by
  obtain ⟨c0, c1, c2, c3, c4, c5, c6, c7, c8, c9, c10, c11, -⟩ := h.c
  rw [show d.commandC 6 p = (if d.unl = false then (d, 2, []) else if p.size < 1 ∨ 8 < p.size then (d, 4, []) else if 4294967295 ≤ d.k.num then (d, 7, []) else (d.put (d.k.withPin p), 0, [])) from command6C d p]
  by_cases hu : d.unl = false
  · rw [if_pos hu]
    rw [hu] at c11
    go_enter Tryz.func57, Tryz.ntmps57
    go_wp2
    go_ret2
    exact ⟨rfl, h, World.grownBy.refl _ _⟩
  · rw [if_neg hu]
    rw [show d.unl = true by simpa using hu] at c11
    by_cases h1 : p.size < 1 ∨ 8 < p.size
    · rw [if_pos h1]
      by_cases h1a : p.size < 1
      · have h1' : (p.size : Int) < 1 := by omega
        go_enter Tryz.func57, Tryz.ntmps57
        go_wp2
        go_ret2
        exact ⟨rfl, h, World.grownBy.refl _ _⟩
      · have h1' : ¬ (p.size : Int) < 1 := by omega
        have h1'' : (8 : Int) < p.size := by omega
        go_enter Tryz.func57, Tryz.ntmps57
        go_wp2
        go_ret2
        exact ⟨rfl, h, World.grownBy.refl _ _⟩
    · rw [if_neg h1]
      have h1' : ¬ (p.size : Int) < 1 := by omega
      have h1'' : ¬ (8 : Int) < p.size := by omega
      by_cases hw : 4294967295 ≤ d.k.num
      · rw [if_pos hw]
        go_enter Tryz.func57, Tryz.ntmps57
        go_wp2_with (go_at_call 83; refine (ref_worn w g _ h).mono ?_; rintro _ w9 ⟨rfl, e9⟩; rw [e9]; clear e9 w9)
        go_ret2
        exact ⟨rfl, h, World.grownBy.refl _ _⟩
      · rw [if_neg hw]
        have f := ok.fair
        have hgn := ok.next (k := d.k.withPin p) hw ⟨ok.good.n0, ok.good.n1, ok.good.t0, ok.good.t1, by show p.size ≤ 8; omega, ok.k0, ok.k1, ok.k2, ok.k3⟩
        have hfair : (d.k.withPin p).fair := ⟨f.n0, f.n1, f.t0, f.t1, by show p.size < _; omega, f.k0, f.k1, f.k2, f.k3⟩
        have hn0 : 0 ≤ d.k.num := by have := ok.n0; omega
        have hn1 : d.k.num < 4294967296 := by have := ok.n1; omega
        have hgl : g < w.heap.size := h.lt
        have hne1 : ¬ g = w.heap.size := by omega
        have hne2 : ¬ w.heap.size = g := by omega
        go_enter Tryz.func57, Tryz.ntmps57
        go_wp2_with (first | (go_at_call 83; refine (ref_worn w g _ h).mono ?_; rintro _ w9 ⟨rfl, e9⟩; rw [e9]; clear e9 w9) | (go_at_call 84; refine (ref_put _ g d (d.k.withPin p) (Row.alloc h _) hfair hn0 hn1 ok.wh ok.c1 ok.s0 ok.s1 hgn).mono ?_; rintro _ w2 ⟨rfl, hd2, hg2⟩))
        go_ret2
        exact ⟨rfl, hd2, (World.grownBy_alloc w _ _).trans hg2⟩

set_option maxRecDepth 100000 in
set_option maxHeartbeats 1000000 in
theorem ref_commandC7_false (w : World) (g : Nat) (d : Dv) (h : DvAt w g d) (ok : d.sound) (hu : d.unl = false) :
    Calls Tryz.prog 57 #[.pointer (some ⟨g, 0, none⟩), .int .i64 7, .string ⟨#[]⟩] w (Left g w (d, 0, [b8 0, b8 d.k.tries, b8 (d.k.bits 4)])) := by
  obtain ⟨c0, c1, c2, c3, c4, c5, c6, c7, c8, c9, c10, c11, -⟩ := h.c
  rw [hu] at c11
  have ht0 := ok.t0
  have ht1 := ok.t1
  go_enter Tryz.func57, Tryz.ntmps57
  go_wp2
  go_loopw [9, 10, 11] (fun bv pv c wr => ∃ i : Nat, i ≤ 4 ∧ c = .int .i64 i ∧ bv = .int .i64 (d.k.bits i) ∧ pv = .int .i64 (2 ^ i) ∧ wr = w) (fun _ _ c _ => 4 - (intOf c).toNat)
  case atStart => exact ⟨0, by omega, rfl, rfl, rfl, rfl⟩
  case round =>
    obtain ⟨i, hi, rfl, rfl, rfl, rfl⟩ := hrel
    have hbd := d.k.bits_bd i hi
    obtain ⟨pw, HP⟩ : ∃ pw : Int, Hid (pw = 2 ^ i) := ⟨_, rfl⟩
    have hpw : 1 ≤ pw ∧ pw ≤ 16 := by
      rw [HP.out]
      rcases (by omega : i = 0 ∨ i = 1 ∨ i = 2 ∨ i = 3 ∨ i = 4) with rfl | rfl | rfl | rfl | rfl <;> decide
    by_cases hlt : i < 4
    · have hck := key_cell h i hlt
      have HB : Hid (d.k.bits (i + 1) = d.k.bits i + (if (d.k.key i).size = 0 then 0 else 2 ^ i)) := rfl
      have HP2 : Hid ((2 : Int) ^ (i + 1) = 2 * 2 ^ i) := by show _ = _; rw [Int.pow_succ]; omega
      rw [← HP.out] at hbd HB HP2
      rw [← HP.out]
      have hi4 : (i : Int) < 4 := by omega
      have hi0 : (0 : Int) ≤ i := by omega
      obtain ⟨hb0, hb1⟩ := hbd
      obtain ⟨hp0, hp1⟩ := hpw
      generalize d.k.bits i = bb at *
      by_cases hk : (d.k.key i).size = 0
      · rw [if_pos hk] at HB
        rw [empty_of_size hk] at hck
        go_wp2
        refine ⟨⟨i + 1, by omega, by go_num, ?_, ?_, trivial⟩, by simp [intOf]; omega⟩
        · rw [HB.out]; simp
        · rw [HP2.out]
      · rw [if_neg hk] at HB
        have hke := toList_ne_nil hk
        generalize d.k.key i = kb at *
        go_wp2
        refine ⟨⟨i + 1, by omega, by go_num, ?_, ?_, trivial⟩, by simp [intOf]; omega⟩
        · rw [HB.out]
        · rw [HP2.out]
    · have hi4 : i = 4 := by omega
      subst hi4
      have hge : ¬ ((4 : Nat) : Int) < 4 := by omega
      have hcv := fun (W : World) a b c => conv3d W a b c W.heap.size rfl
      have hw8 : ∀ x : Int, IntKind.u8.wrap x = x % 256 := u8_wrap
      generalize d.k.bits 4 = bb at *
      go_wp2
      go_region
      go_wp2
      go_ret2
      exact ⟨ret_pair rfl, (Row.alloc h _).drew, grown_drew (grown_alloc (World.grownBy.refl _ _) _)⟩

set_option maxRecDepth 100000 in
set_option maxHeartbeats 1000000 in
theorem ref_commandC7_true (w : World) (g : Nat) (d : Dv) (h : DvAt w g d) (ok : d.sound) (hu : d.unl = true) :
    Calls Tryz.prog 57 #[.pointer (some ⟨g, 0, none⟩), .int .i64 7, .string ⟨#[]⟩] w (Left g w (d, 0, [b8 1, b8 d.k.tries, b8 (d.k.bits 4)])) := by
  obtain ⟨c0, c1, c2, c3, c4, c5, c6, c7, c8, c9, c10, c11, -⟩ := h.c
  rw [hu] at c11
  have ht0 := ok.t0
  have ht1 := ok.t1
  go_enter Tryz.func57, Tryz.ntmps57
  go_wp2
  go_loopw [9, 10, 11] (fun bv pv c wr => ∃ i : Nat, i ≤ 4 ∧ c = .int .i64 i ∧ bv = .int .i64 (d.k.bits i) ∧ pv = .int .i64 (2 ^ i) ∧ wr = w) (fun _ _ c _ => 4 - (intOf c).toNat)
  case atStart => exact ⟨0, by omega, rfl, rfl, rfl, rfl⟩
  case round =>
    obtain ⟨i, hi, rfl, rfl, rfl, rfl⟩ := hrel
    have hbd := d.k.bits_bd i hi
    obtain ⟨pw, HP⟩ : ∃ pw : Int, Hid (pw = 2 ^ i) := ⟨_, rfl⟩
    have hpw : 1 ≤ pw ∧ pw ≤ 16 := by
      rw [HP.out]
      rcases (by omega : i = 0 ∨ i = 1 ∨ i = 2 ∨ i = 3 ∨ i = 4) with rfl | rfl | rfl | rfl | rfl <;> decide
    by_cases hlt : i < 4
    · have hck := key_cell h i hlt
      have HB : Hid (d.k.bits (i + 1) = d.k.bits i + (if (d.k.key i).size = 0 then 0 else 2 ^ i)) := rfl
      have HP2 : Hid ((2 : Int) ^ (i + 1) = 2 * 2 ^ i) := by show _ = _; rw [Int.pow_succ]; omega
      rw [← HP.out] at hbd HB HP2
      rw [← HP.out]
      have hi4 : (i : Int) < 4 := by omega
      have hi0 : (0 : Int) ≤ i := by omega
      obtain ⟨hb0, hb1⟩ := hbd
      obtain ⟨hp0, hp1⟩ := hpw
      generalize d.k.bits i = bb at *
      by_cases hk : (d.k.key i).size = 0
      · rw [if_pos hk] at HB
        rw [empty_of_size hk] at hck
        go_wp2
        refine ⟨⟨i + 1, by omega, by go_num, ?_, ?_, trivial⟩, by simp [intOf]; omega⟩
        · rw [HB.out]; simp
        · rw [HP2.out]
      · rw [if_neg hk] at HB
        have hke := toList_ne_nil hk
        generalize d.k.key i = kb at *
        go_wp2
        refine ⟨⟨i + 1, by omega, by go_num, ?_, ?_, trivial⟩, by simp [intOf]; omega⟩
        · rw [HB.out]
        · rw [HP2.out]
    · have hi4 : i = 4 := by omega
      subst hi4
      have hge : ¬ ((4 : Nat) : Int) < 4 := by omega
      have hcv := fun (W : World) a b c => conv3d W a b c W.heap.size rfl
      have hw8 : ∀ x : Int, IntKind.u8.wrap x = x % 256 := u8_wrap
      generalize d.k.bits 4 = bb at *
      go_wp2
      go_region
      go_wp2
      go_ret2
      exact ⟨ret_pair rfl, (Row.alloc h _).drew, grown_drew (grown_alloc (World.grownBy.refl _ _) _)⟩

set_option maxRecDepth 100000 in
set_option maxHeartbeats 1000000 in
theorem ref_commandC7 (w : World) (g : Nat) (d : Dv) (p : ByteArray) (h : DvAt w g d) (ok : d.sound) :
    Calls Tryz.prog 57 #[.pointer (some ⟨g, 0, none⟩), .int .i64 7, .string p] w (Left g w (d.command 7 p)) := by
  rw [show d.command 7 p = (if p.size = 0 then (d, 0, [b8 (if d.unl then 1 else 0), b8 d.k.tries, b8 (d.k.bits 4)]) else (d, 4, [])) by unfold Dv.command; rw [if_neg (by omega), if_neg (by omega), if_pos rfl]]
  by_cases h0 : p.size = 0
  · rw [if_pos h0]
    obtain rfl := empty_of_size h0
    by_cases hu : d.unl = true
    · rw [if_pos hu]; exact ref_commandC7_true w g d h ok hu
    · rw [if_neg hu]; exact ref_commandC7_false w g d h ok (by simpa using hu)
  · rw [if_neg h0]
    have hne := toList_ne_nil h0
    go_enter Tryz.func57, Tryz.ntmps57
    go_wp2
    go_ret2
    exact ⟨rfl, h, World.grownBy.refl _ _⟩

theorem ref_commandC (hsum : SumSaid sumSpecRef) (w : World) (g : Nat) (d : Dv) (kind : Int) (p : ByteArray) (h : DvAt w g d) (ok : d.sound) (hS : Summ w d.sm) (hp : p.size < 80000) :
    Calls Tryz.prog 57 #[.pointer (some ⟨g, 0, none⟩), .int .i64 kind, .string p] w (Left g w (d.commandC kind p)) := by
  have hsame : ¬ kind = 1 → ¬ (kind = 3 ∨ kind = 4 ∨ kind = 5) → ¬ kind = 6 → d.commandC kind p = d.command kind p := by
    intro h1 h3 h6
    unfold Dv.commandC
    rw [if_neg h1, if_neg h3, if_neg (fun e => h6 e.1)]
  by_cases hn : kind < 1 ∨ 7 < kind
  · rw [hsame (by omega) (by omega) (by omega)]
    exact ref_command_none w g d kind p h hn
  · rcases (by omega : kind = 1 ∨ kind = 2 ∨ kind = 6 ∨ kind = 7 ∨ (kind = 3 ∨ kind = 4 ∨ kind = 5)) with rfl | rfl | rfl | rfl | hk
    · exact ref_commandC1 w g d p h ok hp
    · rw [hsame (by omega) (by omega) (by omega)]
      exact ref_command2 w g d p h
    · exact ref_commandC6 w g d p h ok hp
    · rw [hsame (by omega) (by omega) (by omega)]
      exact ref_commandC7 w g d p h ok
    · exact ref_commandC345 hsum w g d kind p h ok hS hp hk
end Go.Proofs.YtaokemapkgggoaaGreatDoor
