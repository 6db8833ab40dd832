import Derived.Test.YtaokemapkgggoaaDoorKb18
import Derived.Test.YtaokemapkgggoaaDoorKb10
namespace Go.Proofs.YtaokemapkgggoaaDoor
open Go.RowKit

theorem field_take (n : Nat) (f : List UInt8) (b : List UInt8) (h : f = fieldB n b) (m : Nat) (hm : m = b.length) : (f.drop 1).take m = b := by
  subst hm
  rw [h]
  unfold fieldB padTo
  simp
theorem fieldAt_drop (l : List UInt8) (o n m : Nat) (hm : m < n) : ((fieldAt l o n).drop 1).take m = (l.drop (o + 1)).take m := by
  unfold fieldAt
  rw [List.drop_take, List.drop_drop, List.take_take, Nat.min_eq_left (by omega), Nat.add_comm]
theorem key_field {l : List UInt8} {o : Nat} {b : ByteArray} (h0 : bAt l o = b.size) (hb : b.size ≤ 20) (h : fieldAt l o 21 = fieldB 21 (Bs b)) : keyL l o = b := by
  unfold keyL
  rw [h0, Int.toNat_natCast, ← fieldAt_drop l o 21 _ (by omega), field_take 21 _ (Bs b) h b.size (by rw [Bs_len])]
  exact list_str b
theorem keyAt0 (l : List UInt8) (o n : Nat) (hl : o + n ≤ l.length) (hn : 0 < n) : bAt (fieldAt l o n) 0 = bAt l o := by
  have hfl := fieldAt_length l o n hl
  rw [bAt_get _ 0 (by omega), bAt_get l o (by omega)]
  simp [fieldAt]

/-- an image that is written is read as it was -/
theorem read_raw {k : Kep} (h : k.good) (x : UInt8) : readK (k.raw x) = k := by
  have hl := Kep.raw_length h (x := x)
  have hp : (str (((k.raw x).drop 7).take (bAt (k.raw x) 6).toNat)) = k.pin := by
    have hpf := Kep.raw_pinAt h (x := x)
    have h0 : bAt (k.raw x) 6 = k.pin.size := Kep.raw_pin0 h
    have hps := h.pin
    rw [h0, Int.toNat_natCast, ← fieldAt_drop (k.raw x) 6 9 _ (by omega), field_take 9 _ (Bs k.pin) hpf k.pin.size (by rw [Bs_len])]
    exact list_str _
  have hk : ∀ i, i < 4 → keyL (k.raw x) (15 + 21 * i) = k.key i := by
    intro i hi
    have hf := Kep.raw_keyAt h (x := x) i hi
    have hs : (k.key i).size ≤ 20 := h.key i
    have h0 : bAt (k.raw x) (15 + 21 * i) = (k.key i).size := by
      rw [← keyAt0 (k.raw x) (15 + 21 * i) 21 (by omega) (by omega), hf, field_first 21 _ (by omega)]
    exact key_field h0 hs hf
  have k0 := hk 0 (by omega)
  have k1 := hk 1 (by omega)
  have k2 := hk 2 (by omega)
  have k3 := hk 3 (by omega)
  simp only [Nat.mul_zero, Nat.add_zero, Nat.reduceMul, Nat.reduceAdd] at k0 k1 k2 k3
  unfold readK
  rw [Kep.raw_num h, Kep.raw_tries h, hp, k0, k1, k2, k3]
  rfl
theorem read_img {k : Kep} (h : k.good) : readK k.img = k := by rw [Kep.img_raw h]; exact read_raw h _
theorem readOk_img {k : Kep} (h : k.good) (hn : 1 ≤ k.num) (hp : 1 ≤ k.pin.size) : readOk k.img := right_read _ (Kep.img_right h hn hp)
theorem readOk_head {l : List UInt8} (h : readOk l) : l.head? = some 167 := by
  rw [← h.2.2]
  rfl

/-- the flash holds what the device keeps -/
structure Dv.stands (d : Dv) : Prop where
  wh : d.wh = 0 ∨ d.wh = 1
  right : readOk (Bs (if d.wh = 0 then d.h0 else d.h1))
  same : readK (Bs (if d.wh = 0 then d.h0 else d.h1)) = d.k
  oth : ¬ readOk (Bs (if d.wh = 0 then d.h1 else d.h0)) ∨ (if d.wh = 0 then ¬ d.k.num < (readK (Bs d.h1)).num else (readK (Bs d.h0)).num < d.k.num)

theorem Dv.stands.boot {d : Dv} (h : d.stands) : d.bootC = ({ d.base with off := false }, 0) := by
  obtain ⟨hw, hr, hs, ho⟩ := h
  obtain ⟨sm, h0, h1, k, wh, unl, off, cut, inn⟩ := d
  simp only at hw hr hs ho
  unfold Dv.bootC
  rcases hw with rfl | rfl
  · simp only [if_pos] at hr hs ho
    simp only
    rw [if_neg (fun e => e.1 hr), if_neg, hs]
    · rfl
    · rintro (e | e)
      · exact e hr
      · rcases ho with ho | ho
        · exact ho e.1
        · rw [hs] at e; exact ho e.2
  · rw [if_neg (by omega)] at hr hs ho
    rw [if_neg (by omega)] at ho
    simp only
    rw [if_neg (fun e => e.2 hr), if_pos, hs]
    · rfl
    · rcases ho with ho | ho
      · exact .inl ho
      · exact .inr ⟨hr, by rw [hs]; exact ho⟩
theorem Dv.stands.of_boot {d : Dv} (h : d.bootC.2 = 0) : d.bootC.1.stands := by
  unfold Dv.bootC at h ⊢
  by_cases h1 : ¬ readOk (Bs d.h0) ∧ ¬ readOk (Bs d.h1)
  · rw [if_pos h1] at h
    exact absurd h (show ¬ (2 : Int) = 0 by omega)
  · rw [if_neg h1] at h ⊢
    by_cases h2 : ¬ readOk (Bs d.h0) ∨ (readOk (Bs d.h1) ∧ (readK (Bs d.h0)).num < (readK (Bs d.h1)).num)
    · rw [if_pos h2]
      refine ⟨.inr rfl, ?_, rfl, ?_⟩
      · show readOk (Bs d.h1)
        rcases h2 with e | e
        · exact Classical.byContradiction fun x => h1 ⟨e, x⟩
        · exact e.1
      · show ¬ readOk (Bs d.h0) ∨ (readK (Bs d.h0)).num < (readK (Bs d.h1)).num
        exact h2.imp id And.right
    · rw [if_neg h2]
      have h3 : readOk (Bs d.h0) := Classical.byContradiction fun x => h2 (.inl x)
      refine ⟨.inl rfl, h3, rfl, ?_⟩
      show ¬ readOk (Bs d.h1) ∨ ¬ (readK (Bs d.h0)).num < (readK (Bs d.h1)).num
      by_cases h4 : readOk (Bs d.h1)
      · exact .inr fun x => h2 (.inr ⟨h4, x⟩)
      · exact .inl h4

theorem Dv.stands.wrote {d : Dv} {k : Kep} (h : d.stands) (S : d.sound) (hw : ¬ 4294967295 ≤ d.k.num) (hk : k.good) (hp : 1 ≤ k.pin.size) : (d.wrote k).stands := by
  have hg := S.next hw hk
  have n0 := S.n0
  have hr : readOk (k.next (d.k.num + 1)).img := readOk_img hg (by simp only [Kep.next]; omega) hp
  have hi : readK (k.next (d.k.num + 1)).img = k.next (d.k.num + 1) := read_img hg
  obtain ⟨hwh, hr0, hs0, ho⟩ := h
  have eb : Bs (str (k.next (d.k.num + 1)).img) = (k.next (d.k.num + 1)).img := str_list _
  rcases hwh with e | e
  · rw [if_pos e] at hr0 hs0 ho
    have e1 : (d.wrote k).wh = 1 := by simp only [Dv.wrote, e]; rfl
    have e2 : (d.wrote k).h1 = str (k.next (d.k.num + 1)).img := by simp only [Dv.wrote, if_pos e]
    have e3 : (d.wrote k).h0 = d.h0 := by simp only [Dv.wrote, if_pos e]
    have e4 : (d.wrote k).k = k.next (d.k.num + 1) := rfl
    refine ⟨.inr e1, ?_, ?_, .inr ?_⟩
    · rw [if_neg (by omega), e2, eb]; exact hr
    · rw [if_neg (by omega), e2, eb, e4]; exact hi
    · rw [if_neg (by omega), e3, hs0, e4]
      simp only [Kep.next]
      omega
  · rw [if_neg (by omega)] at hr0 hs0 ho
    have e1 : (d.wrote k).wh = 0 := by simp only [Dv.wrote, e]; rfl
    have e2 : (d.wrote k).h0 = str (k.next (d.k.num + 1)).img := by simp only [Dv.wrote]; rw [if_neg (by omega)]
    have e3 : (d.wrote k).h1 = d.h1 := by simp only [Dv.wrote]; rw [if_neg (by omega)]
    have e4 : (d.wrote k).k = k.next (d.k.num + 1) := rfl
    refine ⟨.inl e1, ?_, ?_, .inr ?_⟩
    · rw [if_pos e1, e2, eb]; exact hr
    · rw [if_pos e1, e2, eb, e4]; exact hi
    · rw [if_pos e1, e3, hs0, e4]
      simp only [Kep.next]
      omega
theorem torn_wrong (n : Nat) (hn : ¬ n = 0) (t : List UInt8) (old : ByteArray) : ¬ readOk (Bs (tornB n t old)) := by
  unfold tornB
  rw [if_neg hn]
  intro h
  have := readOk_head h
  rw [show Bs (str (0 :: (t.drop 1).take (n - 1) ++ old.data.toList.drop n)) = 0 :: (t.drop 1).take (n - 1) ++ old.data.toList.drop n from str_list _] at this
  simp at this
theorem Dv.stands.torn {d : Dv} {k : Kep} (h : d.stands) : (d.torn k).stands := by
  obtain ⟨hwh, hr0, hs0, ho⟩ := h
  by_cases hn : d.cut.toNat = 0
  · have e0 : (d.torn k).h0 = d.h0 := by simp only [Dv.torn, tornB, if_pos hn]; split <;> rfl
    have e1 : (d.torn k).h1 = d.h1 := by simp only [Dv.torn, tornB, if_pos hn]; split <;> rfl
    refine ⟨hwh, ?_, ?_, ?_⟩
    · rw [e0, e1]; exact hr0
    · rw [e0, e1]; exact hs0
    · rw [e0, e1]; exact ho
  · rcases hwh with e | e
    · rw [if_pos e] at hr0 hs0
      have e0 : (d.torn k).h0 = d.h0 := by simp only [Dv.torn, if_pos e]
      have e1 : (d.torn k).h1 = tornB d.cut.toNat (k.next (d.k.num + 1)).img d.h1 := by simp only [Dv.torn, if_pos e]
      have ew : (d.torn k).wh = 0 := e
      refine ⟨.inl e, ?_, ?_, .inl ?_⟩
      · rw [if_pos ew, e0]; exact hr0
      · rw [if_pos ew, e0]; exact hs0
      · rw [if_pos ew, e1]; exact torn_wrong _ hn _ _
    · rw [if_neg (by omega)] at hr0 hs0
      have e1 : (d.torn k).h1 = d.h1 := by simp only [Dv.torn]; rw [if_neg (by omega)]
      have e0 : (d.torn k).h0 = tornB d.cut.toNat (k.next (d.k.num + 1)).img d.h0 := by simp only [Dv.torn]; rw [if_neg (by omega)]
      have ew : (d.torn k).wh = 1 := e
      refine ⟨.inr e, ?_, ?_, .inl ?_⟩
      · rw [if_neg (by omega), e1]; exact hr0
      · rw [if_neg (by omega), e1]; exact hs0
      · rw [if_neg (by omega), e0]; exact torn_wrong _ hn _ _
theorem Dv.stands.put {d : Dv} {k : Kep} (h : d.stands) (S : d.sound) (hw : ¬ 4294967295 ≤ d.k.num) (hk : k.good) (hp : 1 ≤ k.pin.size) : (d.put k).stands := by
  unfold Dv.put
  split
  · exact h.torn
  · exact h.wrote S hw hk hp
theorem Dv.stands.lock {d : Dv} (h : d.stands) : d.lock.stands := ⟨h.wh, h.right, h.same, h.oth⟩
theorem Dv.stands.open {d : Dv} (h : d.stands) : d.open.stands := ⟨h.wh, h.right, h.same, h.oth⟩
theorem Dv.stands.withIn {d : Dv} (h : d.stands) (l : List UInt8) : (d.withIn l).stands := ⟨h.wh, h.right, h.same, h.oth⟩
theorem Dv.stands.setCut {d : Dv} (h : d.stands) (n : Int) : ({ d with cut := n } : Dv).stands := ⟨h.wh, h.right, h.same, h.oth⟩
theorem fresh_stands (sm : Nat) (p : ByteArray) (h1 : 1 ≤ p.size) (h2 : p.size ≤ 8) : (Dv.fresh sm p).stands := by
  have hg : (Dv.fresh sm p).k.good := ⟨by simp only [Dv.fresh]; omega, by simp only [Dv.fresh]; omega, by simp only [Dv.fresh]; omega, by simp only [Dv.fresh]; omega, h2, Nat.zero_le _, Nat.zero_le _, Nat.zero_le _, Nat.zero_le _⟩
  have e0 : Bs (Dv.fresh sm p).h0 = (Dv.fresh sm p).k.img := str_list _
  have e1 : Bs (Dv.fresh sm p).h1 = List.replicate 100 0 := (str_list _).trans rfl
  refine ⟨.inl rfl, ?_, ?_, .inl ?_⟩
  · show readOk (Bs (Dv.fresh sm p).h0)
    rw [e0]
    exact readOk_img hg (by simp only [Dv.fresh]; omega) h1
  · show readK (Bs (Dv.fresh sm p).h0) = _
    rw [e0]
    exact read_img hg
  · show ¬ readOk (Bs (Dv.fresh sm p).h1)
    rw [e1]
    intro h
    have := readOk_head h
    simp at this
end Go.Proofs.YtaokemapkgggoaaDoor

namespace Go.Proofs.YtaokemapkgggoaaDoor
open Go.RowKit

theorem Dv.unlockC_stands {d : Dv} (t : d.stands) (h : d.sound) (p : ByteArray) : (d.unlockC p).1.stands := by
  unfold Dv.unlockC
  split
  · exact t
  split
  · exact t
  split
  · exact t
  rename_i ht hw
  have hgl := less_goodS h.good ht
  split
  · exact t.torn
  have SW := h.wrote hw hgl h.p0
  have TW := t.wrote h hw hgl h.p0
  split
  · dsimp only
    split
    · rename_i hc
      exact TW.lock.put SW.lock hc.2 ⟨hgl.n0, hgl.n1, hgl.t0, hgl.t1, hgl.pin, Nat.zero_le _, Nat.zero_le _, Nat.zero_le _, Nat.zero_le _⟩ h.p0
    · exact TW.lock
  split
  · exact TW.lock
  rename_i hw2
  have hgf : d.k.less.full.good := ⟨hgl.n0, hgl.n1, by simp only [Kep.full]; omega, by simp only [Kep.full]; omega, hgl.pin, hgl.k0, hgl.k1, hgl.k2, hgl.k3⟩
  split
  · exact TW.torn
  · exact (TW.wrote SW hw2 hgf h.p0).open
theorem slot_dev {d : Dv} {kind : Int} {p : ByteArray} (hx : ¬ (kind = 3 ∧ d.unl = true ∧ ¬ (p.size = 0 ∨ 4 ≤ hd0 p) ∧ ¬ 20 < (rest1 p).size ∧ ¬ 4294967295 ≤ d.k.num)) : (d.slot kind p).1 = d := by
  unfold Dv.slot
  by_cases hu : d.unl = false
  · rw [if_pos hu]
  rw [if_neg hu]
  have hu' : d.unl = true := by simpa using hu
  by_cases hb : p.size = 0 ∨ 4 ≤ hd0 p
  · rw [if_pos hb]
  rw [if_neg hb]
  by_cases h3 : kind = 3
  · by_cases hl : 20 < (rest1 p).size
    · rw [if_pos ⟨h3, hl⟩]
    · rw [if_neg (fun e => hl e.2)]
      by_cases hw : 4294967295 ≤ d.k.num
      · rw [if_pos ⟨h3, hw⟩]
      · exact absurd ⟨h3, hu', hb, hl, hw⟩ hx
  · rw [if_neg (fun e => h3 e.1), if_neg (fun e => h3 e.1), if_neg h3]
    repeat' split
    all_goals rfl
theorem Dv.slotC_stands {d : Dv} (t : d.stands) (h : d.sound) (kind : Int) (p : ByteArray) : (d.slotC kind p).1.stands := by
  unfold Dv.slotC
  split
  · rename_i hx
    exact t.put h hx.2.2.2.2 (put_goodS h.good (by have := hx.2.2.2.1; omega)) (by rw [put_pinS]; exact h.p0)
  · rename_i hx
    rw [slot_dev hx]
    exact t
theorem Dv.commandC_stands {d : Dv} (t : d.stands) (h : d.sound) (kind : Int) (p : ByteArray) : (d.commandC kind p).1.stands := by
  unfold Dv.commandC
  split
  · exact Dv.unlockC_stands t h p
  rename_i h1
  split
  · exact Dv.slotC_stands t h kind p
  rename_i h3
  split
  · rename_i hx
    exact t.put h hx.2.2.2 ⟨h.good.n0, h.good.n1, h.good.t0, h.good.t1, by show p.size ≤ 8; have := hx.2.2.1; omega, h.k0, h.k1, h.k2, h.k3⟩ (by show 1 ≤ p.size; have := hx.2.2.1; omega)
  rename_i hx
  unfold Dv.command
  rw [if_neg h1]
  split
  · split
    · exact t.lock
    · exact t
  split
  · split <;> exact t
  split
  · rename_i h6
    by_cases hu : d.unl = false
    · rw [if_pos hu]; exact t
    · rw [if_neg hu]
      by_cases hp : p.size < 1 ∨ 8 < p.size
      · rw [if_pos hp]; exact t
      · rw [if_neg hp]
        by_cases hw : 4294967295 ≤ d.k.num
        · rw [if_pos hw]; exact t
        · exact absurd ⟨h6, by simpa using hu, hp, hw⟩ hx
  · exact t

/-- the device behind all frames, wherever the power goes -/
theorem feedC_good : ∀ (n : Nat) (d : Dv) (l : List UInt8), l.length < n → d.sound → d.stands → (feedC n d l).2.sound ∧ (feedC n d l).2.stands ∧ (feedC n d l).2.sm = d.sm ∧ (feedC n d l).2.inn.size < 52
  | 0, d, l, h, _, _ => absurd h (by omega)
  | n + 1, d, l, h, ok, f => by
    have hsl := skip_length l
    by_cases ho : d.off = true
    · rw [feedC_off ho]
      exact ⟨withIn_sound ok _, f.withIn _, rfl, by show (0 : Nat) < 52; omega⟩
    · have ho' : d.off = false := by simpa using ho
      by_cases hw : (skip l).length < 2 ∨ (fLen (skip l) ≤ 48 ∧ (skip l).length < fLen (skip l) + 4)
      · rw [feedC_wait ho' rfl hw]
        refine ⟨withIn_sound ok _, f.withIn _, rfl, ?_⟩
        show (str (skip l)).size < 52
        rw [str_size]
        omega
      · by_cases hb : 48 < fLen (skip l) ∨ ¬ (1 + sumB (((skip l).drop 1).take (fLen (skip l) + 2))) % 256 = (bytesI (skip l)).getD (fLen (skip l) + 3) 0
        · rw [feedC_bad ho' rfl hw hb]
          exact feedC_good n (d.withIn ((skip l).drop 1)) ((skip l).drop 1) (by rw [List.length_drop]; omega) (withIn_sound ok _) (f.withIn _)
        · rw [feedC_cmd ho' rfl hw hb rfl]
          have hk := Dv.commandC_sound (withIn_sound ok ((skip l).drop (fLen (skip l) + 4))) ((bytesI (skip l)).getD 2 0) (str (((skip l).drop 3).take (fLen (skip l))))
          have hf := Dv.commandC_stands (f.withIn ((skip l).drop (fLen (skip l) + 4))) (withIn_sound ok _) ((bytesI (skip l)).getD 2 0) (str (((skip l).drop 3).take (fLen (skip l))))
          have := feedC_good n _ ((skip l).drop (fLen (skip l) + 4)) (by rw [List.length_drop]; omega) hk.1 hf
          exact ⟨this.1, this.2.1, this.2.2.1.trans hk.2.sm, this.2.2.2⟩

/-- what is asked by a whole frame -/
def frameB (kind : Nat) (p : List UInt8) : List UInt8 := [165, b8 p.length, b8 kind] ++ p ++ [b8 (p.length + kind + 1 + sumB p)]
theorem frameB_len (kind : Nat) (p : List UInt8) : (frameB kind p).length = p.length + 4 := by simp [frameB]
theorem frameB_cons (kind : Nat) (p : List UInt8) : frameB kind p = 165 :: b8 p.length :: b8 kind :: (p ++ [b8 (p.length + kind + 1 + sumB p)]) := by simp [frameB]
theorem frame_fLen (kind : Nat) (p : List UInt8) (hp : p.length ≤ 48) : fLen (frameB kind p) = p.length := by
  unfold fLen
  rw [frameB_cons]
  simp only [bytesI, List.map_cons, List.getD_cons_succ, List.getD_cons_zero]
  rw [b8_toNat]
  omega
theorem getD_mid (a : List Int) (x y : Int) : (a ++ [x]).getD a.length y = x := by simp [List.getD]
/-- a whole frame, fed to a device with power that waits for nothing -/
theorem feedC_frame (n : Nat) (d : Dv) (kind : Nat) (p : List UInt8) (hk : kind < 256) (hp : p.length ≤ 48) (ho : d.off = false) (c : Dv × Int × List UInt8) (hc : c = (d.withIn []).commandC kind (str p)) :
    feedC (n + 2) d (frameB kind p) = ((if c.1.off = true then [] else told c.2.1 c.2.2), c.1.withIn []) := by
  have hf := frame_fLen kind p hp
  have hs : skip (frameB kind p) = frameB kind p := by rw [frameB_cons]; simp [skip]
  have hl := frameB_len kind p
  have hw : ¬ ((frameB kind p).length < 2 ∨ (fLen (frameB kind p) ≤ 48 ∧ (frameB kind p).length < fLen (frameB kind p) + 4)) := by rw [hf, hl]; omega
  have h2 : (bytesI (frameB kind p)).getD 2 0 = kind := by
    rw [frameB_cons]
    simp only [bytesI, List.map_cons, List.getD_cons_succ, List.getD_cons_zero]
    rw [b8_toNat]
    omega
  have hpay : ((frameB kind p).drop 3).take (fLen (frameB kind p)) = p := by
    rw [hf, frameB_cons]
    simp
  have hrest : (frameB kind p).drop (fLen (frameB kind p) + 4) = [] := by
    rw [hf]
    exact List.drop_of_length_le (by omega)
  have hb : ¬ (48 < fLen (frameB kind p) ∨ ¬ (1 + sumB (((frameB kind p).drop 1).take (fLen (frameB kind p) + 2))) % 256 = (bytesI (frameB kind p)).getD (fLen (frameB kind p) + 3) 0) := by
    rw [hf]
    have e1 : ((frameB kind p).drop 1).take (p.length + 2) = b8 p.length :: b8 kind :: p := by
      rw [frameB_cons]
      simp
    have e2 : (bytesI (frameB kind p)).getD (p.length + 3) 0 = (p.length + kind + 1 + sumB p) % 256 := by
      rw [frameB_cons]
      simp only [bytesI, List.map_cons, List.getD_cons_succ, List.map_append, List.map_nil]
      have := getD_mid (p.map fun b => (b.toNat : Int)) ((b8 (p.length + kind + 1 + sumB p)).toNat : Int) 0
      rw [List.length_map] at this
      rw [this, b8_toNat]
    rw [e1, e2]
    simp only [sumB]
    rw [b8_toNat, b8_toNat]
    omega
  rw [feedC_cmd (n := n + 1) ho hs hw hb (c := c) (by rw [hrest, h2, hpay]; exact hc), hrest]
  have hin : feedC (n + 1) c.1 [] = ([], c.1.withIn []) := by
    by_cases h : c.1.off = true
    · exact feedC_off h
    · exact feedC_wait (by simpa using h) rfl (.inl (by simp))
  rw [hin, List.append_nil]
end Go.Proofs.YtaokemapkgggoaaDoor

namespace Go.Proofs.YtaokemapkgggoaaDoor
open Go.RowKit

set_option maxRecDepth 100000 in
theorem keep_pick (c : Int) (n : Nat) (w : World) (hc0 : -9223372036854775808 ≤ c) (hc1 : c ≤ 9223372036854775807) (hn : 0 < n) (hn1 : n ≤ 100000) :
    Calls Tryd.prog 20 #[.int .i64 c, .int .i64 n] w fun r w' => r = .returned (.int .i64 (pickN c n)) ∧ w' = w := by
  have hn' : ¬ (n : Int) = 0 := by omega
  by_cases h : c < 0
  · have e : -(c + 1).tmod n = (pickN c n : Int) := by
      unfold pickN
      rw [if_pos h, ← Int.neg_tmod, Int.tmod_eq_emod_of_nonneg (by omega)]
      have := Int.emod_nonneg (-(c + 1)) hn'
      omega
    have E : Hid (-(c + 1).tmod n = (pickN c n : Int)) := e
    clear e
    go_enter Tryd.func20, Tryd.ntmps20
    go_wp2
    go_ret
    refine ⟨?_, rfl⟩
    rw [E.out]
    rfl
  · have e : c % n = (pickN c n : Int) := by
      unfold pickN
      rw [if_neg h]
      have := Int.emod_nonneg c hn'
      omega
    have E : Hid (c % n = (pickN c n : Int)) := e
    clear e
    go_enter Tryd.func20, Tryd.ntmps20
    go_wp2
    go_ret
    refine ⟨?_, rfl⟩
    rw [E.out]
    rfl

set_option maxRecDepth 100000 in
set_option maxHeartbeats 1000000 in
theorem keep_frame (st : Int) (p : ByteArray) (w : World) (h0 : 0 ≤ st) (h1 : st < 256) (hp : p.size < 100000000) :
    Calls Tryd.prog 16 #[.int .i64 st, .string p] w fun r w' => r = .returned (.string (str (told st p.data.toList))) ∧ Below w.heap.size w w' := by
  have hpl : Hid (p.size = p.data.toList.length) := by show _ = _; rw [Array.length_toList]; rfl
  go_enter Tryd.func16, Tryd.ntmps16
  go_wp2
  go_loopw [5, 6] (fun sv c ws => ∃ j : Nat, j ≤ p.size ∧ c = .int .i64 j ∧ sv = .int .i64 ((p.size : Int) + st + 1 + sumB (p.data.toList.take j)) ∧ ws = w) (fun _ c _ => p.size - (intOf c).toNat)
  case atStart => exact ⟨0, by omega, rfl, by simp [sumB], rfl⟩
  case round =>
    obtain ⟨j, hj, rfl, rfl, rfl⟩ := hrel
    have hS0 := sumB_nonneg (p.data.toList.take j)
    have hS1 := sumB_le (p.data.toList.take j)
    have hlen : (p.data.toList.take j).length ≤ p.size := by rw [List.length_take, ← hpl.out]; omega
    by_cases hlt2 : j < p.size
    · have HS : Hid _ := sumB_take_succ p.data.toList j (by rw [← hpl.out]; exact hlt2)
      have hb := byte_at hlt2
      have hbd := getD_isB (bytesI_B p.data.toList) j
      obtain ⟨hb0, hb1'⟩ := hbd
      generalize (bytesI p.data.toList).getD j 0 = x at *
      generalize sumB (p.data.toList.take j) = sm at *
      have hj' : (j : Int) < p.size := by omega
      go_wp2
      refine ⟨⟨j + 1, by omega, by go_num, ?_, trivial⟩, by simp [intOf]; omega⟩
      rw [HS.out, Int.add_assoc]
    · have hj' : ¬ (j : Int) < p.size := by omega
      have e : p.data.toList.take j = p.data.toList := List.take_of_length_le (by rw [← hpl.out]; omega)
      rw [e] at hS0 hS1
      rw [e]
      rw [← hpl.out] at hS1
      have HF : Hid (str (told st p.data.toList) = ⟨#[165]⟩ ++ strOfNums [(p.size : Int) % 256, st] ++ p ++ strOfNums [((p.size : Int) + st + 1 + sumB p.data.toList) % 256]) := by
        show _ = _
        rw [told_str, told, ← hpl.out, toBytes_b8 h0 h1]
        rfl
      generalize sumB p.data.toList = sm at *
      have hm : ((p.size : Int) + st + 1 + sm).tmod 256 = ((p.size : Int) + st + 1 + sm) % 256 := Int.tmod_eq_emod_of_nonneg (by omega)
      have hcv := fun (W : World) (o : Obj) a => conv1 (W.alloc o) a (W.heap.size + 1) (World.size_alloc _ _).symm
      have hcv2 := fun W a b => conv2 W a b W.heap.size rfl
      have hz1 := size1
      have hz2 := size2
      have hA7 : (⟨#[165]⟩ : ByteArray).size = 1 := rfl
      have hw8 : ∀ x : Int, IntKind.u8.wrap x = x % 256 := u8_wrap
      have hst : st % 256 = st := by omega
      have hs3 : 3 + p.size + 1 ≤ 9223372036854775807 := by omega
      have hs4 : 3 + p.size ≤ 9223372036854775807 := by omega
      go_wp2
      go_ret
      exact ⟨ret_bytes HF.out.symm, ((Below.refl _ _).alloc (Nat.le_refl _) _).alloc (by simp) _⟩

/-- one of six PINs -/
def pinT : Nat → List UInt8
  | 0 => [48]
  | 1 => [49, 50, 51, 52]
  | 2 => [49, 50, 51, 53]
  | 3 => [49, 50, 51, 52, 53, 54, 55, 56]
  | 4 => [165]
  | _ => [0, 0]
/-- one of six keys -/
def keyT : Nat → List UInt8
  | 0 => [49, 50, 51, 52, 53, 54, 55, 56, 57, 48, 49, 50, 51, 52, 53, 54, 55, 56, 57, 48]
  | 1 => [107]
  | 2 => [0]
  | 3 => [165, 165, 165]
  | 4 => [107, 101, 121]
  | _ => [107, 101, 120]
def pinL (c : Int) : List UInt8 := pinT (pickN c 6)
def keyL6 (c : Int) : List UInt8 := keyT (pickN c 6)
theorem six {n : Nat} (h : n < 6) : n = 0 ∨ n = 1 ∨ n = 2 ∨ n = 3 ∨ n = 4 ∨ n = 5 := by omega
theorem pinT_len (n : Nat) : 1 ≤ (pinT n).length ∧ (pinT n).length ≤ 8 := by unfold pinT; split <;> decide
theorem keyT_len (n : Nat) : 1 ≤ (keyT n).length ∧ (keyT n).length ≤ 20 := by unfold keyT; split <;> decide
theorem pinL_len (c : Int) : 1 ≤ (pinL c).length ∧ (pinL c).length ≤ 8 := pinT_len _
theorem keyL6_len (c : Int) : 1 ≤ (keyL6 c).length ∧ (keyL6 c).length ≤ 20 := keyT_len _

set_option maxRecDepth 100000 in
set_option maxHeartbeats 1000000 in
theorem keep_pin (c : Int) (w : World) (hc0 : -9223372036854775808 ≤ c) (hc1 : c ≤ 9223372036854775807) :
    Calls Tryd.prog 17 #[.int .i64 c] w fun r w' => r = .returned (.string (str (pinL c))) ∧ Below w.heap.size w w' := by
  have hp := keep_pick c 6
  have hlt : pickN c 6 < 6 := pickN_lt c (by omega)
  unfold pinL
  rcases six hlt with h | h | h | h | h | h
  all_goals
    rw [h]
    have hpk := fun W => hp W hc0 hc1 (by omega) (by omega)
    rw [h] at hpk
    clear hp hlt h
    go_enter Tryd.func17, Tryd.ntmps17
    go_wp2_with (go_at_call 20; refine (hpk _).mono ?_; rintro _ w9 ⟨rfl, e9⟩; rw [e9]; clear e9 w9)
    go_ret
    exact ⟨rfl, (Below.refl _ _).alloc (Nat.le_refl _) _⟩

set_option maxRecDepth 100000 in
set_option maxHeartbeats 1000000 in
theorem keep_key (c : Int) (w : World) (hc0 : -9223372036854775808 ≤ c) (hc1 : c ≤ 9223372036854775807) :
    Calls Tryd.prog 11 #[.int .i64 c] w fun r w' => r = .returned (.string (str (keyL6 c))) ∧ Below w.heap.size w w' := by
  have hp := keep_pick c 6
  have hlt : pickN c 6 < 6 := pickN_lt c (by omega)
  unfold keyL6
  rcases six hlt with h | h | h | h | h | h
  all_goals
    rw [h]
    have hpk := fun W => hp W hc0 hc1 (by omega) (by omega)
    rw [h] at hpk
    clear hp hlt h
    go_enter Tryd.func11, Tryd.ntmps11
    go_wp2_with (go_at_call 20; refine (hpk _).mono ?_; rintro _ w9 ⟨rfl, e9⟩; rw [e9]; clear e9 w9)
    go_ret
    exact ⟨rfl, (Below.refl _ _).alloc (Nat.le_refl _) _⟩

theorem str_toList (l : List UInt8) : (str l).toList = l := by
  rw [ByteArray.toList_eq]
  exact str_list l
set_option maxRecDepth 100000 in
set_option maxHeartbeats 1000000 in
theorem keep_answered (l : List UInt8) (st : Int) (p : List UInt8) (w : World) (h0 : 0 ≤ st) (h1 : st < 256) (hp : p.length < 100000) :
    Calls Tryd.prog 30 #[.string (str l), .int .i64 st, .string (str p)] w fun r w' => r = .returned (.bool (l == told st p)) ∧ Below w.heap.size w w' := by
  have hf := keep_frame st (str p) w h0 h1 (by rw [str_size]; omega)
  rw [str_list] at hf
  generalize told st p = t at *
  go_enter Tryd.func30, Tryd.ntmps30
  go_wp2_with (go_at_call 16; refine hf.mono ?_; rintro _ w1 ⟨rfl, hb1⟩)
  go_ret
  refine ⟨?_, hb1⟩
  show Ending.returned (.bool ((str l).toList == (str t).toList)) = _
  rw [str_toList, str_toList]
end Go.Proofs.YtaokemapkgggoaaDoor
