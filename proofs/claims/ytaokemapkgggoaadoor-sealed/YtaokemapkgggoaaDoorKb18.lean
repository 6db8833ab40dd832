import Derived.Test.YtaokemapkgggoaaDoorKb14
import Derived.Test.YtaokemapkgggoaaDoorKb17
import Derived.Deep.RegionHeld3
import Derived.Test.YtaokemapkgggoaaDoorKb10
import Derived.Deep.RegionWith
namespace Go.Proofs.YtaokemapkgggoaaDoor
open Go.RowKit

def inLen (g : Nat) (w : World) : Nat := strLen ((w.cell? ⟨g, 14, none⟩).getD undef)

theorem ext_list2 (b : ByteArray) (i j : Nat) : (b.extract i j).data.toList = (b.data.toList.drop i).take (j - i) := by
  rw [ByteArray.data_extract, Array.toList_extract, List.extract_eq_take_drop]
theorem ext_list (b : ByteArray) (i : Nat) : (b.extract i b.size).data.toList = b.data.toList.drop i := by
  rw [ext_list2]
  exact List.take_of_length_le (by rw [List.length_drop, Array.length_toList]; exact Nat.le_refl _)
theorem Dv.withIn_ok {d : Dv} (ok : d.ok) (l : List UInt8) : (d.withIn l).ok := ⟨ok.n0, ok.n1, ok.t0, ok.t1, ok.p0, ok.p1, ok.k0, ok.k1, ok.k2, ok.k3, ok.wh, ok.off, ok.cut⟩
theorem str_app (b : ByteArray) (l : List UInt8) : (b ++ str l).data.toList = b.data.toList ++ l := by rw [ByteArray.data_append, Array.toList_append, str_list]
theorem app_size (b : ByteArray) (l : List UInt8) : (b ++ str l).size = b.size + l.length := by rw [ByteArray.size_append, str_size]
theorem size_data (b : ByteArray) : b.size = b.data.toList.length := by rw [Array.length_toList]; rfl

end Go.Proofs.YtaokemapkgggoaaDoor

namespace Go.Proofs.YtaokemapkgggoaaDoor
open Go.RowKit

theorem Dv.same.put (d : Dv) (k : Kep) : d.same (d.put k) := by unfold Dv.put; split <;> exact ⟨rfl, rfl⟩
theorem Dv.same.trans {a b c : Dv} (h : a.same b) (k : b.same c) : a.same c := ⟨k.sm.trans h.sm, k.inn.trans h.inn⟩
theorem Dv.unlockC_sound {d : Dv} (h : d.sound) (p : ByteArray) : (d.unlockC p).1.sound ∧ d.same (d.unlockC p).1 := by
  unfold Dv.unlockC
  split
  · exact ⟨h, .refl d⟩
  split
  · exact ⟨h, .refl d⟩
  split
  · exact ⟨h, .refl d⟩
  rename_i ht hw
  have hgl := less_goodS h.good ht
  split
  · exact ⟨h.torn hw hgl (by assumption), ⟨rfl, rfl⟩⟩
  have SW := h.wrote hw hgl h.p0
  split
  · dsimp only
    split
    · rename_i hc
      refine ⟨SW.lock.put hc.2 ⟨hgl.n0, hgl.n1, hgl.t0, hgl.t1, hgl.pin, Nat.zero_le _, Nat.zero_le _, Nat.zero_le _, Nat.zero_le _⟩ h.p0, ?_⟩
      exact Dv.same.trans (b := (d.wrote d.k.less).lock) ⟨rfl, rfl⟩ (Dv.same.put _ _)
    · exact ⟨SW.lock, ⟨rfl, rfl⟩⟩
  split
  · exact ⟨SW.lock, ⟨rfl, rfl⟩⟩
  rename_i hw2
  have hgf : d.k.less.full.good := ⟨hgl.n0, hgl.n1, by simp only [Kep.full]; omega, by simp only [Kep.full]; omega, hgl.pin, hgl.k0, hgl.k1, hgl.k2, hgl.k3⟩
  split
  · exact ⟨SW.torn hw2 hgf (by assumption), ⟨rfl, rfl⟩⟩
  · exact ⟨(SW.wrote hw2 hgf h.p0).open, ⟨rfl, rfl⟩⟩
theorem put_pinS (k : Kep) (i : Nat) (q : ByteArray) : (k.put i q).pin = k.pin := by
  unfold Kep.put
  repeat' split
  all_goals rfl
theorem Dv.slotC_sound {d : Dv} (h : d.sound) (kind : Int) (p : ByteArray) : (d.slotC kind p).1.sound ∧ d.same (d.slotC kind p).1 := by
  unfold Dv.slotC
  split
  · rename_i hx
    exact ⟨h.put hx.2.2.2.2 (put_goodS h.good (by have := hx.2.2.2.1; omega)) (by rw [put_pinS]; exact h.p0), Dv.same.put _ _⟩
  · rename_i hx
    unfold Dv.slot
    by_cases hu : d.unl = false
    · rw [if_pos hu]; exact ⟨h, .refl d⟩
    rw [if_neg hu]
    have hu' : d.unl = true := by simpa using hu
    by_cases hb : p.size = 0 ∨ 4 ≤ hd0 p
    · rw [if_pos hb]; exact ⟨h, .refl d⟩
    rw [if_neg hb]
    by_cases h3 : kind = 3
    · by_cases hl : 20 < (rest1 p).size
      · rw [if_pos ⟨h3, hl⟩]; exact ⟨h, .refl d⟩
      · rw [if_neg (fun e => hl e.2)]
        by_cases hw : 4294967295 ≤ d.k.num
        · rw [if_pos ⟨h3, hw⟩]; exact ⟨h, .refl d⟩
        · exact absurd ⟨h3, hu', hb, hl, hw⟩ hx
    · rw [if_neg (fun e => h3 e.1), if_neg (fun e => h3 e.1), if_neg h3]
      repeat' split
      all_goals exact ⟨h, .refl d⟩
theorem Dv.commandC_sound {d : Dv} (h : d.sound) (kind : Int) (p : ByteArray) : (d.commandC kind p).1.sound ∧ d.same (d.commandC kind p).1 := by
  unfold Dv.commandC
  split
  · exact Dv.unlockC_sound h p
  rename_i h1
  split
  · exact Dv.slotC_sound h kind p
  rename_i h3
  split
  · rename_i hx
    exact ⟨h.put hx.2.2.2 ⟨h.good.n0, h.good.n1, h.good.t0, h.good.t1, by show p.size ≤ 8; have := hx.2.2.1; omega, h.k0, h.k1, h.k2, h.k3⟩ (by show 1 ≤ p.size; have := hx.2.2.1; omega), Dv.same.put _ _⟩
  rename_i hx
  unfold Dv.command
  rw [if_neg h1]
  split
  · split
    · exact ⟨h.lock, ⟨rfl, rfl⟩⟩
    · exact ⟨h, .refl d⟩
  split
  · split <;> exact ⟨h, .refl d⟩
  split
  · rename_i h6
    by_cases hu : d.unl = false
    · rw [if_pos hu]; exact ⟨h, .refl d⟩
    · rw [if_neg hu]
      by_cases hp : p.size < 1 ∨ 8 < p.size
      · rw [if_pos hp]; exact ⟨h, .refl d⟩
      · rw [if_neg hp]
        by_cases hw : 4294967295 ≤ d.k.num
        · rw [if_pos hw]; exact ⟨h, .refl d⟩
        · exact absurd ⟨h6, by simpa using hu, hp, hw⟩ hx
  · exact ⟨h, .refl d⟩
theorem Dv.unlockC_len (d : Dv) (p : ByteArray) : (d.unlockC p).2.2.length ≤ 32 ∧ 0 ≤ (d.unlockC p).2.1 ∧ (d.unlockC p).2.1 < 256 := by
  unfold Dv.unlockC
  repeat' split
  all_goals (simp <;> omega)
theorem Dv.commandC_len (d : Dv) (kind : Int) (p : ByteArray) : (d.commandC kind p).2.2.length ≤ 32 ∧ 0 ≤ (d.commandC kind p).2.1 ∧ (d.commandC kind p).2.1 < 256 := by
  unfold Dv.commandC
  split
  · exact d.unlockC_len p
  split
  · unfold Dv.slotC
    split
    · simp
    · exact d.slot_len kind p
  split
  · simp
  · exact d.command_len kind p

/-- what is answered to some bytes, wherever the power goes -/
def feedC : Nat → Dv → List UInt8 → List UInt8 × Dv
  | 0, d, l => ([], d.withIn l)
  | n + 1, d, l =>
    if d.off = true then ([], d.withIn [])
    else if fWait (skip l) = true then ([], d.withIn (skip l))
    else if fBad (skip l) = true then
      (told 1 [] ++ (feedC n (d.withIn ((skip l).drop 1)) ((skip l).drop 1)).1, (feedC n (d.withIn ((skip l).drop 1)) ((skip l).drop 1)).2)
    else
      let c := (d.withIn ((skip l).drop (fLen (skip l) + 4))).commandC ((bytesI (skip l)).getD 2 0) (str (((skip l).drop 3).take (fLen (skip l))))
      ((if c.1.off = true then [] else told c.2.1 c.2.2) ++ (feedC n c.1 ((skip l).drop (fLen (skip l) + 4))).1, (feedC n c.1 ((skip l).drop (fLen (skip l) + 4))).2)
theorem feedC_off {n : Nat} {d : Dv} {l : List UInt8} (ho : d.off = true) : feedC (n + 1) d l = ([], d.withIn []) := by
  unfold feedC
  rw [if_pos ho]
theorem feedC_wait {n : Nat} {d : Dv} {l s : List UInt8} (ho : d.off = false) (hs : skip l = s) (h : s.length < 2 ∨ (fLen s ≤ 48 ∧ s.length < fLen s + 4)) : feedC (n + 1) d l = ([], d.withIn s) := by
  unfold feedC
  rw [if_neg (by simp [ho]), hs, if_pos (by simpa [fWait] using h)]
theorem feedC_bad {n : Nat} {d : Dv} {l s : List UInt8} (ho : d.off = false) (hs : skip l = s) (h : ¬ (s.length < 2 ∨ (fLen s ≤ 48 ∧ s.length < fLen s + 4))) (hb : 48 < fLen s ∨ ¬ (1 + sumB ((s.drop 1).take (fLen s + 2))) % 256 = (bytesI s).getD (fLen s + 3) 0) :
    feedC (n + 1) d l = (told 1 [] ++ (feedC n (d.withIn (s.drop 1)) (s.drop 1)).1, (feedC n (d.withIn (s.drop 1)) (s.drop 1)).2) := by
  rw [feedC, if_neg (by simp [ho]), hs, if_neg (by simpa only [fWait, decide_eq_true_eq] using h), if_pos (by simpa only [fBad, decide_eq_true_eq] using hb)]
theorem feedC_cmd {n : Nat} {d : Dv} {l s : List UInt8} {c : Dv × Int × List UInt8} (ho : d.off = false) (hs : skip l = s) (h : ¬ (s.length < 2 ∨ (fLen s ≤ 48 ∧ s.length < fLen s + 4))) (hb : ¬ (48 < fLen s ∨ ¬ (1 + sumB ((s.drop 1).take (fLen s + 2))) % 256 = (bytesI s).getD (fLen s + 3) 0))
    (hc : c = (d.withIn (s.drop (fLen s + 4))).commandC ((bytesI s).getD 2 0) (str ((s.drop 3).take (fLen s)))) :
    feedC (n + 1) d l = ((if c.1.off = true then [] else told c.2.1 c.2.2) ++ (feedC n c.1 (s.drop (fLen s + 4))).1, (feedC n c.1 (s.drop (fLen s + 4))).2) := by
  rw [feedC, if_neg (by simp [ho]), hs, if_neg (by simpa only [fWait, decide_eq_true_eq] using h), if_neg (by simpa only [fBad, decide_eq_true_eq] using hb), hc]
theorem withIn_sound {d : Dv} (h : d.sound) (l : List UInt8) : (d.withIn l).sound := h.withIn l

end Go.Proofs.YtaokemapkgggoaaDoor

set_option linter.unusedSimpArgs false
namespace Go.Proofs.YtaokemapkgggoaaDoor
open Go.RowKit

section
variable {P : Program} {o : Oper} {a : Act} {w w' : World} {K : Act → World → Prop} {Q : Exit → Act → World → Prop}
theorem wp_unit (hrun : (execOp a.eval o).run P w = .ok .skip w') (h : K (a.put o.dst undef) w') : o.wp P a w K Q := by
  unfold Oper.wp
  rw [hrun]
  exact h
end

/-- a key in an image -/
def keyL (l : List UInt8) (o : Nat) : ByteArray := str ((l.drop (o + 1)).take (bAt l o).toNat)
/-- what an image says -/
def readK (l : List UInt8) : Kep := ⟨numOf l, bAt l 5, str ((l.drop 7).take (bAt l 6).toNat), keyL l 15, keyL l 36, keyL l 57, keyL l 78⟩
def zeroK : Kep := ⟨0, 0, ⟨#[]⟩, ⟨#[]⟩, ⟨#[]⟩, ⟨#[]⟩, ⟨#[]⟩⟩
/-- an image is right -/
abbrev readOk (l : List UInt8) : Prop := (¬ numOf l = 0 ∧ bAt l 5 ≤ 5 ∧ 1 ≤ bAt l 6 ∧ bAt l 6 ≤ 8) ∧ (bAt l 15 ≤ 20 ∧ bAt l 36 ≤ 20 ∧ bAt l 57 ≤ 20 ∧ bAt l 78 ≤ 20) ∧ (readK l).img = l
theorem numOf_go (l : List UInt8) : ((bAt l 1 * 256 + bAt l 2) * 256 + bAt l 3) * 256 + bAt l 4 = numOf l := by
  unfold numOf word4
  omega

theorem results_box {P : Program} {fn : Func} {p u : Tmp} {ty : TypeId} (h : fn.results = #[.cell p ty, .tmp u]) (tmps : Array Value) (w : World) (b : Nat) (hp : tmps.getD p undef = .pointer (some ⟨b, 0, none⟩)) (cs : List Value) (hl : (loadVar ty ⟨b, 0, none⟩).run P w = .ok (.agg cs.toArray) w) :
    (results fn tmps).run P w = .ok (.tuple #[.agg cs.toArray, tmps.getD u undef]) w := by
  rw [results_cell_tmp h, hp]
  simp [asAddr, hl]
theorem ext_key (t : ByteArray) (o n : Nat) : t.extract (o + 1) (o + 1 + n) = str ((t.data.toList.drop (o + 1)).take n) := by
  rw [← list_str (t.extract (o + 1) (o + 1 + n)), ByteArray.data_extract, Array.toList_extract, List.extract_eq_take_drop, show o + 1 + n - (o + 1) = n by omega]

end Go.Proofs.YtaokemapkgggoaaDoor

namespace Go.Proofs.YtaokemapkgggoaaDoor
open Go.RowKit

def Dv.base (d : Dv) : Dv := { d with unl := false, inn := ⟨#[]⟩, cut := -1, off := true }
/-- a device is booted -/
def Dv.bootC (d : Dv) : Dv × Int :=
  if ¬ readOk (Bs d.h0) ∧ ¬ readOk (Bs d.h1) then (d.base, 2)
  else if ¬ readOk (Bs d.h0) ∨ (readOk (Bs d.h1) ∧ (readK (Bs d.h0)).num < (readK (Bs d.h1)).num) then ({ d.base with off := false, k := readK (Bs d.h1), wh := 1 }, 0)
  else ({ d.base with off := false, k := readK (Bs d.h0), wh := 0 }, 0)

theorem Row.ne' {w : World} {a b : Nat} {cs ds : List Value} {s t : TypeId} (h : Row w a cs s) (k : Row w b ds t) (hst : s ≠ t) : a ≠ b := by
  rintro rfl
  unfold Row at h k
  rw [h] at k
  simp only [Option.some.injEq, Obj.cells.injEq] at k
  exact hst k.2.1

end Go.Proofs.YtaokemapkgggoaaDoor

namespace Go.Proofs.YtaokemapkgggoaaDoor
open Go.RowKit

/-- a device of a flash, ahead of its boot -/
def Dv.of (sm : Nat) (h0 h1 : ByteArray) : Dv := ⟨sm, h0, h1, zeroK, 0, false, false, 0, ⟨#[]⟩⟩
theorem Dv.bootC_cases (d : Dv) : d.bootC.2 = 0 ∨ d.bootC.2 = 2 := by
  unfold Dv.bootC
  split
  · exact .inr rfl
  split <;> exact .inl rfl

end Go.Proofs.YtaokemapkgggoaaDoor

namespace Go.Proofs.YtaokemapkgggoaaDoor
open Go.RowKit

theorem bAt_get (l : List UInt8) (i : Nat) (h : i < l.length) : bAt l i = (l[i].toNat : Int) := by
  unfold bAt bytesI
  rw [List.getD_eq_getElem?_getD, List.getElem?_map, List.getElem?_eq_getElem h]
  rfl
theorem get_b8 (l : List UInt8) (i : Nat) (h : i < l.length) : l[i] = b8 (bAt l i) := by rw [bAt_get l i h, b8_of]

/-- a field, by its first byte and the zeros behind -/
theorem field_is (n : Nat) (f : List UInt8) (m : Nat) (hl : f.length = n) (hm : bAt f 0 = m) (hmn : m < n) (hr : restZero f (1 + m)) : f = fieldB n ((f.drop 1).take m) := by
  match f, hl with
  | [], hl =>
    simp only [List.length_nil] at hl
    omega
  | a :: r, hl =>
    have hrl : r.length = n - 1 := by simp at hl; omega
    have hml : (r.take m).length = m := by rw [List.length_take]; omega
    unfold fieldB
    simp only [List.drop_succ_cons, List.drop_zero]
    rw [hml]
    congr 1
    · have := get_b8 (a :: r) 0 (by simp)
      rw [hm] at this
      exact this
    · unfold padTo
      rw [hml]
      conv => lhs; rw [← List.take_append_drop m r]
      congr 1
      apply List.ext_getElem
      · rw [List.length_drop, List.length_replicate]; omega
      · intro i h1 h2
        rw [List.getElem_replicate, List.getElem_drop]
        have hi : 1 + m + i < (a :: r).length := by rw [List.length_drop] at h1; simp; omega
        have h0 := hr (1 + m + i) (by omega) hi
        have hg := get_b8 (a :: r) (1 + m + i) hi
        rw [h0] at hg
        have e : (a :: r)[1 + m + i] = r[m + i]'(by rw [List.length_drop] at h1; omega) := by
          simp only [show 1 + m + i = (m + i) + 1 by omega, List.getElem_cons_succ]
        rw [← e, hg]
        rfl

theorem split_img (l : List UInt8) (hl : l.length = 100) : l = raw (l[0]) ((l.drop 1).take 4) (l[5]) (fieldAt l 6 9) (fieldAt l 15 21) (fieldAt l 36 21) (fieldAt l 57 21) (fieldAt l 78 21) (l[99]) := by
  have e0 : l = l[0] :: l.drop 1 := by rw [← List.drop_eq_getElem_cons (by omega), List.drop_zero]
  have c : ∀ a n, a + n ≤ 100 → l.drop a = fieldAt l a n ++ l.drop (a + n) := by
    intro a n _
    unfold fieldAt
    rw [show l.drop (a + n) = (l.drop a).drop n by rw [List.drop_drop], List.take_append_drop]
  have e1 := c 1 4 (by omega)
  have e5 : l.drop 5 = l[5] :: l.drop 6 := List.drop_eq_getElem_cons (by omega)
  have e6 := c 6 9 (by omega)
  have e15 := c 15 21 (by omega)
  have e36 := c 36 21 (by omega)
  have e57 := c 57 21 (by omega)
  have e78 := c 78 21 (by omega)
  have e99 : l.drop 99 = [l[99]] := by rw [List.drop_eq_getElem_cons (by omega), List.drop_of_length_le (by omega)]
  unfold raw
  conv => lhs; rw [e0, e1]
  rw [show 1 + 4 = 5 from rfl, e5, e6, show 6 + 9 = 15 from rfl, e15, show 15 + 21 = 36 from rfl, e36, show 36 + 21 = 57 from rfl, e57, show 57 + 21 = 78 from rfl, e78, show 78 + 21 = 99 from rfl, e99]
  rfl

theorem four_bytes (l : List UInt8) (hl : l.length = 100) : (l.drop 1).take 4 = toBytes (four (numOf l)) := by
  have h1 := bAt_B l 1
  have h2 := bAt_B l 2
  have h3 := bAt_B l 3
  have h4 := bAt_B l 4
  have e : (l.drop 1).take 4 = [l[1], l[2], l[3], l[4]] := by
    rw [List.drop_eq_getElem_cons (by omega), List.drop_eq_getElem_cons (by omega), List.drop_eq_getElem_cons (by omega), List.drop_eq_getElem_cons (by omega)]
    rfl
  rw [e, get_b8 l 1 (by omega), get_b8 l 2 (by omega), get_b8 l 3 (by omega), get_b8 l 4 (by omega)]
  unfold four numOf word4 toBytes
  simp only [List.map_cons, List.map_nil]
  rw [toBytes_b8 (by omega) (by omega), toBytes_b8 (by omega) (by omega), toBytes_b8 (by omega) (by omega), toBytes_b8 (by omega) (by omega)]
  congr 1
  · congr 1; omega
  congr 1
  · congr 1; omega
  congr 1
  · congr 1; omega
  congr 1
  congr 1; omega

theorem keyL_bs (l : List UInt8) (o : Nat) : Bs (keyL l o) = (l.drop (o + 1)).take (bAt l o).toNat := str_list _
theorem field_key (l : List UInt8) (o n m : Nat) (hl : o + n ≤ l.length) (hn : 0 < n) (hm : bAt (fieldAt l o n) 0 = m) (hmn : m < n) (hr : restZero (fieldAt l o n) (1 + m)) : bAt l o = m ∧ fieldAt l o n = fieldB n ((l.drop (o + 1)).take m) := by
  have hfl := fieldAt_length l o n hl
  have e0 : bAt (fieldAt l o n) 0 = bAt l o := by
    rw [bAt_get _ 0 (by omega), bAt_get l o (by omega)]
    simp [fieldAt]
  refine ⟨by rw [← e0]; exact hm, ?_⟩
  rw [field_is n _ m hfl hm hmn hr]
  congr 1
  unfold fieldAt
  rw [List.drop_take, List.drop_drop, List.take_take, Nat.min_eq_left (by omega), Nat.add_comm]

/-- what the program calls right, and what the document reads -/
theorem right_read (l : List UInt8) (h : RightL l) : readOk l := by
  have hl := h.len
  obtain ⟨m, hm, hmn, hr⟩ := h.pin
  obtain ⟨hp, hpf⟩ := field_key l 6 9 m (by omega) (by omega) hm hmn hr
  have key : ∀ i, i < 4 → ∃ q : Nat, bAt l (15 + 21 * i) = q ∧ q < 21 ∧ fieldAt l (15 + 21 * i) 21 = fieldB 21 ((l.drop (15 + 21 * i + 1)).take q) := by
    intro i hi
    obtain ⟨q, hq, hqn, hqr⟩ := h.keys i hi
    obtain ⟨e1, e2⟩ := field_key l (15 + 21 * i) 21 q (by omega) (by omega) hq hqn hqr
    exact ⟨q, e1, hqn, e2⟩
  obtain ⟨q0, a0, b0, f0⟩ := key 0 (by omega)
  obtain ⟨q1, a1, b1, f1⟩ := key 1 (by omega)
  obtain ⟨q2, a2, b2, f2⟩ := key 2 (by omega)
  obtain ⟨q3, a3, b3, f3⟩ := key 3 (by omega)
  simp only [Nat.mul_zero, Nat.add_zero, Nat.reduceMul, Nat.reduceAdd] at a0 a1 a2 a3 f0 f1 f2 f3
  have hb6 := h.pin0
  have ht := h.tries
  have hw := numOf_w l
  unfold isW at hw
  have hb5 := bAt_B l 5
  have hpz : (readK l).pin.size = m := by
    show (str ((l.drop 7).take (bAt l 6).toNat)).size = m
    rw [str_size, hp, List.length_take, List.length_drop]
    omega
  have hkz : ∀ o q : Nat, o < 80 → bAt l o = q → q < 21 → (keyL l o).size = q := by
    intro o q ho e hq
    unfold keyL
    rw [str_size, e, List.length_take, List.length_drop]
    omega
  have hg : (readK l).good := ⟨hw.1, hw.2, hb5.1, ht, by rw [hpz]; omega, by show (keyL l 15).size ≤ 20; rw [hkz 15 q0 (by omega) a0 b0]; omega, by show (keyL l 36).size ≤ 20; rw [hkz 36 q1 (by omega) a1 b1]; omega, by show (keyL l 57).size ≤ 20; rw [hkz 57 q2 (by omega) a2 b2]; omega, by show (keyL l 78).size ≤ 20; rw [hkz 78 q3 (by omega) a3 b3]; omega⟩
  refine ⟨⟨h.num, ht, by omega, by omega⟩, ⟨by omega, by omega, by omega, by omega⟩, ?_⟩
  have hraw : ∀ x, l[99] = x → l = (readK l).raw x := by
    intro x hx
    conv => lhs; rw [split_img l hl]
    unfold Kep.raw
    have e0 : l[0] = 167 := by
      have := get_b8 l 0 (by omega)
      rw [h.mark] at this
      exact this
    rw [e0, four_bytes l hl, get_b8 l 5 (by omega), hpf, f0, f1, f2, f3, hx]
    have p1 : Bs (readK l).pin = (l.drop (6 + 1)).take m := by
      show Bs (str ((l.drop 7).take (bAt l 6).toNat)) = _
      rw [hp]
      exact str_list _
    have k0 : Bs (readK l).k0 = (l.drop (15 + 1)).take q0 := by show Bs (keyL l 15) = _; rw [keyL_bs, a0]; rfl
    have k1 : Bs (readK l).k1 = (l.drop (36 + 1)).take q1 := by show Bs (keyL l 36) = _; rw [keyL_bs, a1]; rfl
    have k2 : Bs (readK l).k2 = (l.drop (57 + 1)).take q2 := by show Bs (keyL l 57) = _; rw [keyL_bs, a2]; rfl
    have k3 : Bs (readK l).k3 = (l.drop (78 + 1)).take q3 := by show Bs (keyL l 78) = _; rw [keyL_bs, a3]; rfl
    rw [p1, k0, k1, k2, k3]
    rfl
  have h99 : l[99] = b8 (1 + sumB (readK l).body) := by
    have e := get_b8 l 99 (by omega)
    have hs := h.sum
    have hb : (l.drop 1).take 98 = (readK l).body := by
      conv => lhs; rw [hraw _ rfl]
      rw [Kep.raw, raw_mid (four_len _) hg.lp hg.l0 hg.l1 hg.l2 hg.l3, ← Kep.body_eq hg]
    rw [e, hs, chkOf, hb]
    unfold b8
    rw [Int.emod_emod_of_dvd _ (Int.dvd_refl 256)]
  rw [Kep.img_raw hg]
  exact (hraw _ h99).symm
theorem read_right (l : List UInt8) (hl : l.length = 100) (h : readOk l) : RightL l := by
  obtain ⟨⟨h0, h5, h6, h6'⟩, ⟨k0, k1, k2, k3⟩, hi⟩ := h
  have hw := numOf_w l
  unfold isW at hw
  have hb5 := bAt_B l 5
  have hpz : (readK l).pin.size = (bAt l 6).toNat := by
    show (str ((l.drop 7).take (bAt l 6).toNat)).size = _
    rw [str_size, List.length_take, List.length_drop]
    omega
  have hkz : ∀ o : Nat, o < 80 → bAt l o ≤ 20 → (keyL l o).size ≤ 20 := by
    intro o ho e
    unfold keyL
    rw [str_size, List.length_take, List.length_drop]
    omega
  have hg : (readK l).good := ⟨hw.1, hw.2, hb5.1, h5, by rw [hpz]; omega, hkz 15 (by omega) k0, hkz 36 (by omega) k1, hkz 57 (by omega) k2, hkz 78 (by omega) k3⟩
  have := Kep.img_right hg (by show 1 ≤ numOf l; omega) (by rw [hpz]; omega)
  rw [hi] at this
  exact this
end Go.Proofs.YtaokemapkgggoaaDoor

namespace Go.Proofs.YtaokemapkgggoaaDoor
open Go.RowKit

/-- a new device, by its PIN -/
def Dv.fresh (sm : Nat) (p : ByteArray) : Dv :=
  let k : Kep := ⟨1, 5, p, ⟨#[]⟩, ⟨#[]⟩, ⟨#[]⟩, ⟨#[]⟩⟩
  ⟨sm, str k.img, str (padTo 100 []), k, 0, false, false, -1, ⟨#[]⟩⟩

end Go.Proofs.YtaokemapkgggoaaDoor
