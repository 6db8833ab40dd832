import Derived.Test.YtaokemapkgggoaaDoorKb18
import Derived.Test.YtaokemapkgggoaaDoorKb10
namespace Go.Proofs.YtaokemapkgggoaaDoor
open Go.RowKit

theorem Dv.unlockC_stands {d : Dv} (t : d.stands) (h : d.sound) (p : ByteArray) : (d.unlockC p).1.stands := by
  unfold Dv.unlockC
  split
  · exact t
  split
  · exact t
  split
  · exact t
  rename_i ht hw
  have hgl := less_goodS h.good ht
  split
  · exact t.torn
  have SW := h.wrote hw hgl h.p0
  have TW := t.wrote h hw hgl h.p0
  split
  · dsimp only
    split
    · rename_i hc
      exact TW.lock.put SW.lock hc.2 ⟨hgl.n0, hgl.n1, hgl.t0, hgl.t1, hgl.pin, Nat.zero_le _, Nat.zero_le _, Nat.zero_le _, Nat.zero_le _⟩ h.p0
    · exact TW.lock
  split
  · exact TW.lock
  rename_i hw2
  have hgf : d.k.less.full.good := ⟨hgl.n0, hgl.n1, by simp only [Kep.full]; omega, by simp only [Kep.full]; omega, hgl.pin, hgl.k0, hgl.k1, hgl.k2, hgl.k3⟩
  split
  · exact TW.torn
  · exact (TW.wrote SW hw2 hgf h.p0).open
theorem slot_dev {d : Dv} {kind : Int} {p : ByteArray} (hx : ¬ (kind = 3 ∧ d.unl = true ∧ ¬ (p.size = 0 ∨ 4 ≤ hd0 p) ∧ ¬ 20 < (rest1 p).size ∧ ¬ 4294967295 ≤ d.k.num)) : (d.slot kind p).1 = d := by
  unfold Dv.slot
  by_cases hu : d.unl = false
  · rw [if_pos hu]
  rw [if_neg hu]
  have hu' : d.unl = true := by simpa using hu
  by_cases hb : p.size = 0 ∨ 4 ≤ hd0 p
  · rw [if_pos hb]
  rw [if_neg hb]
  by_cases h3 : kind = 3
  · by_cases hl : 20 < (rest1 p).size
    · rw [if_pos ⟨h3, hl⟩]
    · rw [if_neg (fun e => hl e.2)]
      by_cases hw : 4294967295 ≤ d.k.num
      · rw [if_pos ⟨h3, hw⟩]
      · exact absurd ⟨h3, hu', hb, hl, hw⟩ hx
  · rw [if_neg (fun e => h3 e.1), if_neg (fun e => h3 e.1), if_neg h3]
    repeat' split
    all_goals rfl
theorem Dv.slotC_stands {d : Dv} (t : d.stands) (h : d.sound) (kind : Int) (p : ByteArray) : (d.slotC kind p).1.stands := by
  unfold Dv.slotC
  split
  · rename_i hx
    exact t.put h hx.2.2.2.2 (put_goodS h.good (by have := hx.2.2.2.1; omega)) (by rw [put_pinS]; exact h.p0)
  · rename_i hx
    rw [slot_dev hx]
    exact t
theorem Dv.commandC_stands {d : Dv} (t : d.stands) (h : d.sound) (kind : Int) (p : ByteArray) : (d.commandC kind p).1.stands := by
  unfold Dv.commandC
  split
  · exact Dv.unlockC_stands t h p
  rename_i h1
  split
  · exact Dv.slotC_stands t h kind p
  rename_i h3
  split
  · rename_i hx
    exact t.put h hx.2.2.2 ⟨h.good.n0, h.good.n1, h.good.t0, h.good.t1, by show p.size ≤ 8; have := hx.2.2.1; omega, h.k0, h.k1, h.k2, h.k3⟩ (by show 1 ≤ p.size; have := hx.2.2.1; omega)
  rename_i hx
  unfold Dv.command
  rw [if_neg h1]
  split
  · split
    · exact t.lock
    · exact t
  split
  · split <;> exact t
  split
  · rename_i h6
    by_cases hu : d.unl = false
    · rw [if_pos hu]; exact t
    · rw [if_neg hu]
      by_cases hp : p.size < 1 ∨ 8 < p.size
      · rw [if_pos hp]; exact t
      · rw [if_neg hp]
        by_cases hw : 4294967295 ≤ d.k.num
        · rw [if_pos hw]; exact t
        · exact absurd ⟨h6, by simpa using hu, hp, hw⟩ hx
  · exact t

/-- the device behind all frames, wherever the power goes -/
theorem feedC_good : ∀ (n : Nat) (d : Dv) (l : List UInt8), l.length < n → d.sound → d.stands → (feedC n d l).2.sound ∧ (feedC n d l).2.stands ∧ (feedC n d l).2.sm = d.sm ∧ (feedC n d l).2.inn.size < 52
  | 0, d, l, h, _, _ => absurd h (by omega)
  | n + 1, d, l, h, ok, f => by
    have hsl := skip_length l
    by_cases ho : d.off = true
    · rw [feedC_off ho]
      exact ⟨withIn_sound ok _, f.withIn _, rfl, by show (0 : Nat) < 52; omega⟩
    · have ho' : d.off = false := by simpa using ho
      by_cases hw : (skip l).length < 2 ∨ (fLen (skip l) ≤ 48 ∧ (skip l).length < fLen (skip l) + 4)
      · rw [feedC_wait ho' rfl hw]
        refine ⟨withIn_sound ok _, f.withIn _, rfl, ?_⟩
        show (str (skip l)).size < 52
        rw [str_size]
        omega
      · by_cases hb : 48 < fLen (skip l) ∨ ¬ (1 + sumB (((skip l).drop 1).take (fLen (skip l) + 2))) % 256 = (bytesI (skip l)).getD (fLen (skip l) + 3) 0
        · rw [feedC_bad ho' rfl hw hb]
          exact feedC_good n (d.withIn ((skip l).drop 1)) ((skip l).drop 1) (by rw [List.length_drop]; omega) (withIn_sound ok _) (f.withIn _)
        · rw [feedC_cmd ho' rfl hw hb rfl]
          have hk := Dv.commandC_sound (withIn_sound ok ((skip l).drop (fLen (skip l) + 4))) ((bytesI (skip l)).getD 2 0) (str (((skip l).drop 3).take (fLen (skip l))))
          have hf := Dv.commandC_stands (f.withIn ((skip l).drop (fLen (skip l) + 4))) (withIn_sound ok _) ((bytesI (skip l)).getD 2 0) (str (((skip l).drop 3).take (fLen (skip l))))
          have := feedC_good n _ ((skip l).drop (fLen (skip l) + 4)) (by rw [List.length_drop]; omega) hk.1 hf
          exact ⟨this.1, this.2.1, this.2.2.1.trans hk.2.sm, this.2.2.2⟩

/-- what is asked by a whole frame -/
def frameB (kind : Nat) (p : List UInt8) : List UInt8 := [165, b8 p.length, b8 kind] ++ p ++ [b8 (p.length + kind + 1 + sumB p)]
theorem frameB_len (kind : Nat) (p : List UInt8) : (frameB kind p).length = p.length + 4 := by simp [frameB]
theorem frameB_cons (kind : Nat) (p : List UInt8) : frameB kind p = 165 :: b8 p.length :: b8 kind :: (p ++ [b8 (p.length + kind + 1 + sumB p)]) := by simp [frameB]
theorem frame_fLen (kind : Nat) (p : List UInt8) (hp : p.length ≤ 48) : fLen (frameB kind p) = p.length := by
  unfold fLen
  rw [frameB_cons]
  simp only [bytesI, List.map_cons, List.getD_cons_succ, List.getD_cons_zero]
  rw [b8_toNat]
  omega
theorem getD_mid (a : List Int) (x y : Int) : (a ++ [x]).getD a.length y = x := by simp [List.getD]
/-- a whole frame, fed to a device with power that waits for nothing -/
theorem feedC_frame (n : Nat) (d : Dv) (kind : Nat) (p : List UInt8) (hk : kind < 256) (hp : p.length ≤ 48) (ho : d.off = false) (c : Dv × Int × List UInt8) (hc : c = (d.withIn []).commandC kind (str p)) :
    feedC (n + 2) d (frameB kind p) = ((if c.1.off = true then [] else told c.2.1 c.2.2), c.1.withIn []) := by
  have hf := frame_fLen kind p hp
  have hs : skip (frameB kind p) = frameB kind p := by rw [frameB_cons]; simp [skip]
  have hl := frameB_len kind p
  have hw : ¬ ((frameB kind p).length < 2 ∨ (fLen (frameB kind p) ≤ 48 ∧ (frameB kind p).length < fLen (frameB kind p) + 4)) := by rw [hf, hl]; omega
  have h2 : (bytesI (frameB kind p)).getD 2 0 = kind := by
    rw [frameB_cons]
    simp only [bytesI, List.map_cons, List.getD_cons_succ, List.getD_cons_zero]
    rw [b8_toNat]
    omega
  have hpay : ((frameB kind p).drop 3).take (fLen (frameB kind p)) = p := by
    rw [hf, frameB_cons]
    simp
  have hrest : (frameB kind p).drop (fLen (frameB kind p) + 4) = [] := by
    rw [hf]
    exact List.drop_of_length_le (by omega)
  have hb : ¬ (48 < fLen (frameB kind p) ∨ ¬ (1 + sumB (((frameB kind p).drop 1).take (fLen (frameB kind p) + 2))) % 256 = (bytesI (frameB kind p)).getD (fLen (frameB kind p) + 3) 0) := by
    rw [hf]
    have e1 : ((frameB kind p).drop 1).take (p.length + 2) = b8 p.length :: b8 kind :: p := by
      rw [frameB_cons]
      simp
    have e2 : (bytesI (frameB kind p)).getD (p.length + 3) 0 = (p.length + kind + 1 + sumB p) % 256 := by
      rw [frameB_cons]
      simp only [bytesI, List.map_cons, List.getD_cons_succ, List.map_append, List.map_nil]
      have := getD_mid (p.map fun b => (b.toNat : Int)) ((b8 (p.length + kind + 1 + sumB p)).toNat : Int) 0
      rw [List.length_map] at this
      rw [this, b8_toNat]
    rw [e1, e2]
    simp only [sumB]
    rw [b8_toNat, b8_toNat]
    omega
  rw [feedC_cmd (n := n + 1) ho hs hw hb (c := c) (by rw [hrest, h2, hpay]; exact hc), hrest]
  have hin : feedC (n + 1) c.1 [] = ([], c.1.withIn []) := by
    by_cases h : c.1.off = true
    · exact feedC_off h
    · exact feedC_wait (by simpa using h) rfl (.inl (by simp))
  rw [hin, List.append_nil]
end Go.Proofs.YtaokemapkgggoaaDoor

namespace Go.Proofs.YtaokemapkgggoaaDoor
open Go.RowKit

set_option maxRecDepth 100000 in
theorem keep_pick (c : Int) (n : Nat) (w : World) (hc0 : -9223372036854775808 ≤ c) (hc1 : c ≤ 9223372036854775807) (hn : 0 < n) (hn1 : n ≤ 100000) :
    Calls Tryd.prog 20 #[.int .i64 c, .int .i64 n] w fun r w' => r = .returned (.int .i64 (pickN c n)) ∧ w' = w := by
  have hn' : ¬ (n : Int) = 0 := by omega
  by_cases h : c < 0
  · have e : -(c + 1).tmod n = (pickN c n : Int) := by
      unfold pickN
      rw [if_pos h, ← Int.neg_tmod, Int.tmod_eq_emod_of_nonneg (by omega)]
      have := Int.emod_nonneg (-(c + 1)) hn'
      omega
    have E : Hid (-(c + 1).tmod n = (pickN c n : Int)) := e
    clear e
    go_enter Tryd.func20, Tryd.ntmps20
    go_wp2
    go_ret
    refine ⟨?_, rfl⟩
    rw [E.out]
    rfl
  · have e : c % n = (pickN c n : Int) := by
      unfold pickN
      rw [if_neg h]
      have := Int.emod_nonneg c hn'
      omega
    have E : Hid (c % n = (pickN c n : Int)) := e
    clear e
    go_enter Tryd.func20, Tryd.ntmps20
    go_wp2
    go_ret
    refine ⟨?_, rfl⟩
    rw [E.out]
    rfl

set_option maxRecDepth 100000 in
set_option maxHeartbeats 1000000 in
theorem keep_frame (st : Int) (p : ByteArray) (w : World) (h0 : 0 ≤ st) (h1 : st < 256) (hp : p.size < 100000000) :
    Calls Tryd.prog 16 #[.int .i64 st, .string p] w fun r w' => r = .returned (.string (str (told st p.data.toList))) ∧ Below w.heap.size w w' := by
  have hpl : Hid (p.size = p.data.toList.length) := by show _ = _; rw [Array.length_toList]; rfl
  go_enter Tryd.func16, Tryd.ntmps16
  go_wp2
  go_loopw [5, 6] (fun sv c ws => ∃ j : Nat, j ≤ p.size ∧ c = .int .i64 j ∧ sv = .int .i64 ((p.size : Int) + st + 1 + sumB (p.data.toList.take j)) ∧ ws = w) (fun _ c _ => p.size - (intOf c).toNat)
  case atStart => exact ⟨0, by omega, rfl, by simp [sumB], rfl⟩
  case round =>
    obtain ⟨j, hj, rfl, rfl, rfl⟩ := hrel
    have hS0 := sumB_nonneg (p.data.toList.take j)
    have hS1 := sumB_le (p.data.toList.take j)
    have hlen : (p.data.toList.take j).length ≤ p.size := by rw [List.length_take, ← hpl.out]; omega
    by_cases hlt2 : j < p.size
    · have HS : Hid _ := sumB_take_succ p.data.toList j (by rw [← hpl.out]; exact hlt2)
      have hb := byte_at hlt2
      have hbd := getD_isB (bytesI_B p.data.toList) j
      obtain ⟨hb0, hb1'⟩ := hbd
      generalize (bytesI p.data.toList).getD j 0 = x at *
      generalize sumB (p.data.toList.take j) = sm at *
      have hj' : (j : Int) < p.size := by omega
      go_wp2
      refine ⟨⟨j + 1, by omega, by go_num, ?_, trivial⟩, by simp [intOf]; omega⟩
      rw [HS.out, Int.add_assoc]
    · have hj' : ¬ (j : Int) < p.size := by omega
      have e : p.data.toList.take j = p.data.toList := List.take_of_length_le (by rw [← hpl.out]; omega)
      rw [e] at hS0 hS1
      rw [e]
      rw [← hpl.out] at hS1
      have HF : Hid (str (told st p.data.toList) = ⟨#[165]⟩ ++ strOfNums [(p.size : Int) % 256, st] ++ p ++ strOfNums [((p.size : Int) + st + 1 + sumB p.data.toList) % 256]) := by
        show _ = _
        rw [told_str, told, ← hpl.out, toBytes_b8 h0 h1]
        rfl
      generalize sumB p.data.toList = sm at *
      have hm : ((p.size : Int) + st + 1 + sm).tmod 256 = ((p.size : Int) + st + 1 + sm) % 256 := Int.tmod_eq_emod_of_nonneg (by omega)
      have hcv := fun (W : World) (o : Obj) a => conv1 (W.alloc o) a (W.heap.size + 1) (World.size_alloc _ _).symm
      have hcv2 := fun W a b => conv2 W a b W.heap.size rfl
      have hz1 := size1
      have hz2 := size2
      have hA7 : (⟨#[165]⟩ : ByteArray).size = 1 := rfl
      have hw8 : ∀ x : Int, IntKind.u8.wrap x = x % 256 := u8_wrap
      have hst : st % 256 = st := by omega
      have hs3 : 3 + p.size + 1 ≤ 9223372036854775807 := by omega
      have hs4 : 3 + p.size ≤ 9223372036854775807 := by omega
      go_wp2
      go_ret
      exact ⟨ret_bytes HF.out.symm, ((Below.refl _ _).alloc (Nat.le_refl _) _).alloc (by simp) _⟩

/-- one of six PINs -/
def pinT : Nat → List UInt8
  | 0 => [48]
  | 1 => [49, 50, 51, 52]
  | 2 => [49, 50, 51, 53]
  | 3 => [49, 50, 51, 52, 53, 54, 55, 56]
  | 4 => [165]
  | _ => [0, 0]
/-- one of six keys -/
def keyT : Nat → List UInt8
  | 0 => [49, 50, 51, 52, 53, 54, 55, 56, 57, 48, 49, 50, 51, 52, 53, 54, 55, 56, 57, 48]
  | 1 => [107]
  | 2 => [0]
  | 3 => [165, 165, 165]
  | 4 => [107, 101, 121]
  | _ => [107, 101, 120]
def pinL (c : Int) : List UInt8 := pinT (pickN c 6)
def keyL6 (c : Int) : List UInt8 := keyT (pickN c 6)
theorem six {n : Nat} (h : n < 6) : n = 0 ∨ n = 1 ∨ n = 2 ∨ n = 3 ∨ n = 4 ∨ n = 5 := by omega
theorem pinT_len (n : Nat) : 1 ≤ (pinT n).length ∧ (pinT n).length ≤ 8 := by unfold pinT; split <;> decide
theorem keyT_len (n : Nat) : 1 ≤ (keyT n).length ∧ (keyT n).length ≤ 20 := by unfold keyT; split <;> decide
theorem pinL_len (c : Int) : 1 ≤ (pinL c).length ∧ (pinL c).length ≤ 8 := pinT_len _
theorem keyL6_len (c : Int) : 1 ≤ (keyL6 c).length ∧ (keyL6 c).length ≤ 20 := keyT_len _

set_option maxRecDepth 100000 in
set_option maxHeartbeats 1000000 in
theorem keep_pin (c : Int) (w : World) (hc0 : -9223372036854775808 ≤ c) (hc1 : c ≤ 9223372036854775807) :
    Calls Tryd.prog 17 #[.int .i64 c] w fun r w' => r = .returned (.string (str (pinL c))) ∧ Below w.heap.size w w' := by
  have hp := keep_pick c 6
  have hlt : pickN c 6 < 6 := pickN_lt c (by omega)
  unfold pinL
  rcases six hlt with h | h | h | h | h | h
  all_goals
    rw [h]
    have hpk := fun W => hp W hc0 hc1 (by omega) (by omega)
    rw [h] at hpk
    clear hp hlt h
    go_enter Tryd.func17, Tryd.ntmps17
    go_wp2_with (go_at_call 20; refine (hpk _).mono ?_; rintro _ w9 ⟨rfl, e9⟩; rw [e9]; clear e9 w9)
    go_ret
    exact ⟨rfl, (Below.refl _ _).alloc (Nat.le_refl _) _⟩

set_option maxRecDepth 100000 in
set_option maxHeartbeats 1000000 in
theorem keep_key (c : Int) (w : World) (hc0 : -9223372036854775808 ≤ c) (hc1 : c ≤ 9223372036854775807) :
    Calls Tryd.prog 11 #[.int .i64 c] w fun r w' => r = .returned (.string (str (keyL6 c))) ∧ Below w.heap.size w w' := by
  have hp := keep_pick c 6
  have hlt : pickN c 6 < 6 := pickN_lt c (by omega)
  unfold keyL6
  rcases six hlt with h | h | h | h | h | h
  all_goals
    rw [h]
    have hpk := fun W => hp W hc0 hc1 (by omega) (by omega)
    rw [h] at hpk
    clear hp hlt h
    go_enter Tryd.func11, Tryd.ntmps11
    go_wp2_with (go_at_call 20; refine (hpk _).mono ?_; rintro _ w9 ⟨rfl, e9⟩; rw [e9]; clear e9 w9)
    go_ret
    exact ⟨rfl, (Below.refl _ _).alloc (Nat.le_refl _) _⟩

theorem str_toList (l : List UInt8) : (str l).toList = l := by
  rw [ByteArray.toList_eq]
  exact str_list l
set_option maxRecDepth 100000 in
set_option maxHeartbeats 1000000 in
theorem keep_answered (l : List UInt8) (st : Int) (p : List UInt8) (w : World) (h0 : 0 ≤ st) (h1 : st < 256) (hp : p.length < 100000) :
    Calls Tryd.prog 30 #[.string (str l), .int .i64 st, .string (str p)] w fun r w' => r = .returned (.bool (l == told st p)) ∧ Below w.heap.size w w' := by
  have hf := keep_frame st (str p) w h0 h1 (by rw [str_size]; omega)
  rw [str_list] at hf
  generalize told st p = t at *
  go_enter Tryd.func30, Tryd.ntmps30
  go_wp2_with (go_at_call 16; refine hf.mono ?_; rintro _ w1 ⟨rfl, hb1⟩)
  go_ret
  refine ⟨?_, hb1⟩
  show Ending.returned (.bool ((str l).toList == (str t).toList)) = _
  rw [str_toList, str_toList]
end Go.Proofs.YtaokemapkgggoaaDoor
