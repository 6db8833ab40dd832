import Derived.Test.YtaokemapkgggoaaDoorKb17
import Derived.Test.YtaokemapkgggoaaDoorKb16
import Derived.Deep.MidRow
namespace Go.Proofs.YtaokemapkgggoaaDoor
open Go.RowKit

/-- two blocks may be written, all others stay -/
structure Two (x y : Nat) (w w' : World) : Prop where
  os : w'.os = w.os
  tape : w'.tape = w.tape
  output : w'.output = w.output
  size : w.heap.size ≤ w'.heap.size
  block : ∀ k, k < w.heap.size → k ≠ x → k ≠ y → w'.heap[k]? = w.heap[k]?
theorem Two.ofB {x y : Nat} {w w' : World} (h : Below w.heap.size w w') : Two x y w w' := ⟨h.os, h.tape, h.output, h.size, fun k hk _ _ => h.block k hk⟩
theorem Two.of1 {x y : Nat} {w w' : World} (h : w.grownBy w' (some x)) : Two x y w w' := ⟨h.os, h.tape, h.output, h.size, fun k hk hx _ => h.block k hk (fun e => hx (Option.some.inj e))⟩
theorem Two.of2 {x y : Nat} {w w' : World} (h : w.grownBy w' (some y)) : Two x y w w' := ⟨h.os, h.tape, h.output, h.size, fun k hk _ hy => h.block k hk (fun e => hy (Option.some.inj e))⟩
theorem Two.trans {x y : Nat} {a b c : World} (h : Two x y a b) (k : Two x y b c) : Two x y a c :=
  ⟨k.os.trans h.os, k.tape.trans h.tape, k.output.trans h.output, Nat.le_trans h.size k.size, fun i hi hx hy => (k.block i (Nat.lt_of_lt_of_le hi h.size) hx hy).trans (h.block i hi hx hy)⟩
theorem Row.twoE {x y b : Nat} {w w' : World} {cs : List Value} {t : TypeId} (h : Row w b cs t) (k : Two x y w w') (hx : b ≠ x) (hy : b ≠ y) : Row w' b cs t := by
  unfold Row; rw [k.block b h.lt hx hy]; exact h
theorem below_two {B x y : Nat} {w0 w w' : World} (h : Below B w0 w) (k : Two x y w w') (hB : B ≤ w0.heap.size) (hx : B ≤ x) (hy : B ≤ y) : Below B w0 w' :=
  ⟨k.os.trans h.os, k.tape.trans h.tape, k.output.trans h.output, Nat.le_trans h.size k.size, fun i hi => (k.block i (by have := h.size; omega) (by omega) (by omega)).trans (h.block i hi)⟩

theorem Two.drewT {x y : Nat} {w w' : World} (h : Two x y w w') : Two x y w w'.drew := ⟨h.os, h.tape, h.output, h.size, h.block⟩
theorem Two.allocT {x y : Nat} {w w' : World} (h : Two x y w w') (o : Obj) : Two x y w (w'.alloc o) := h.trans (.ofB ((Below.refl _ _).alloc (Nat.le_refl _) _))
theorem Two.set1 {x y : Nat} {w w' : World} (h : Two x y w w') (o : Nat) (v : Value) : Two x y w (w'.setCell ⟨x, o, none⟩ v) := h.trans (.of1 (grown_set (World.grownBy.refl _ _) o v))
theorem Two.set2 {x y : Nat} {w w' : World} (h : Two x y w w') (o : Nat) (v : Value) : Two x y w (w'.setCell ⟨y, o, none⟩ v) := h.trans (.of2 (grown_set (World.grownBy.refl _ _) o v))
theorem Two.cells2 {x y : Nat} {w w' : World} (h : Two x y w w') (o : Nat) (vs : List Value) : Two x y w (w'.setCells y o vs) := h.trans (.of2 (grown_setCells vs o (World.grownBy.refl _ _)))
theorem Two.refl (x y : Nat) (w : World) : Two x y w w := ⟨rfl, rfl, rfl, Nat.le_refl _, fun _ _ _ _ => rfl⟩
/-- of two blocks one is new -/
theorem Two.newer {x y : Nat} {w0 w w' : World} (h : w0.grownBy w (some x)) (k : Two x y w w') (hy : w0.heap.size ≤ y) : w0.grownBy w' (some x) :=
  ⟨k.os.trans h.os, k.tape.trans h.tape, k.output.trans h.output, Nat.le_trans h.size k.size, fun i hi hne => (k.block i (Nat.lt_of_lt_of_le hi h.size) (fun e => hne (by rw [e])) (by omega)).trans (h.block i hi hne)⟩

/-- what the document's device runs on, by the program's cells (where it has power) -/
def Dv.pw (d : Dv) : Pw := ⟨d.off, decide (0 ≤ d.cut), if 0 ≤ d.cut then d.cut else 0⟩
/-- the program's device in memory, by the document's (which has power) -/
def PdAt (w : World) (g : Nat) (d : Dv) : Prop := Row w g (dcells (Bs d.h0 ++ Bs d.h1) d.pw d.unl d.inn) 81
/-- the program's device in memory, in the middle of a command, when the power has gone -/
def PdLost (w : World) (g : Nat) (d : Dv) : Prop := ∃ q u c, Row w g (dcells (Bs d.h0 ++ Bs d.h1) q u c) 81
/-- the program's device in memory, by the document's that is without power -/
def PdOff (w : World) (g : Nat) (d : Dv) : Prop := ∃ a b, Row w g (dcells (Bs d.h0 ++ Bs d.h1) ⟨true, a, b⟩ false ⟨#[]⟩) 81
/-- the program's device in memory, by the document's -/
def PdAny (w : World) (g : Nat) (d : Dv) : Prop := (d.off = false ∧ PdAt w g d) ∨ (d.off = true ∧ PdOff w g d)
theorem PdAny.cells {w : World} {g : Nat} {d : Dv} (h : PdAny w g d) : ∃ q u c, Row w g (dcells (Bs d.h0 ++ Bs d.h1) q u c) 81 := by
  rcases h with ⟨_, h⟩ | ⟨_, a, b, h⟩
  · exact ⟨_, _, _, h⟩
  · exact ⟨_, _, _, h⟩
theorem PdAny.lt {w : World} {g : Nat} {d : Dv} (h : PdAny w g d) : g < w.heap.size := by
  obtain ⟨_, _, _, h⟩ := h.cells
  exact Row.lt h
theorem PdAny.block {w w' : World} {g : Nat} {d : Dv} (h : PdAny w g d) (e : w'.heap[g]? = w.heap[g]?) : PdAny w' g d := by
  unfold PdAny PdAt PdOff Row at h ⊢
  rw [e]
  exact h
theorem PdAny.below {w w' : World} {g B : Nat} {d : Dv} (h : PdAny w g d) (hb : Below B w w') (hg : g < B) : PdAny w' g d := h.block (hb.block g hg)
theorem PdAny.grown {w w' : World} {g k : Nat} {d : Dv} (h : PdAny w g d) (hg : w.grownBy w' (some k)) (hne : g ≠ k) : PdAny w' g d := h.block (hg.block g h.lt (fun e => hne (Option.some.inj e)))
theorem pw_bears {d : Dv} (h : whole d.cut) : d.pw.bears 101 := by
  intro e
  have e' : 0 ≤ d.cut := of_decide_eq_true e
  unfold whole at h
  show (101 : Nat) ≤ (if 0 ≤ d.cut then d.cut else 0) ∧ (if 0 ≤ d.cut then d.cut else 0) ≤ 9223372036854775807
  rw [if_pos e']
  omega
theorem pw_wrote {d : Dv} (k : Kep) (h : whole d.cut) : (d.wrote k).pw = d.pw.spent 101 := by
  unfold whole at h
  unfold Dv.pw Pw.spent Dv.wrote
  by_cases e : 0 ≤ d.cut
  · have e2 : ¬ d.cut < 0 := by omega
    have e3 : 0 ≤ d.cut - 101 := by omega
    have e4 : 101 ≤ d.cut := by omega
    simp [e, e2, e4]
  · have e2 : d.cut < 0 := by omega
    simp [e, e2]
theorem pw_ending {d : Dv} (h : 0 ≤ d.cut) : d.pw.ending = true ∧ d.pw.left = d.cut := ⟨decide_eq_true h, by show (if 0 ≤ d.cut then d.cut else 0) = _; rw [if_pos h]⟩

/-- the flash holds what is kept -/
structure Dv.fit (d : Dv) : Prop where
  l0 : (Bs d.h0).length = 100
  l1 : (Bs d.h1).length = 100
  keeps : keeps (Bs d.h0) (Bs d.h1) d.wh.toNat
  img : (if d.wh = 0 then Bs d.h0 else Bs d.h1) = d.k.img

theorem told_true {l : List UInt8} (h : RightL l) : Told l true := ⟨fun _ => h, fun e => by cases e⟩
theorem numOf_img {k : Kep} (h : k.good) : numOf k.img = k.num := by rw [Kep.img_raw h]; exact Kep.raw_num h

theorem Dv.fit.wrote {d : Dv} {k : Kep} (h : d.fit) (ok : d.sound) (hg : k.good) (hp : 1 ≤ k.pin.size) (hw : ¬ 4294967295 ≤ d.k.num) : (d.wrote k).fit := by
  have n0 := ok.n0
  have hg' : (k.next (d.k.num + 1)).good := ⟨by simp only [Kep.next]; omega, by simp only [Kep.next]; omega, hg.t0, hg.t1, hg.pin, hg.k0, hg.k1, hg.k2, hg.k3⟩
  have hr : RightL (k.next (d.k.num + 1)).img := Kep.img_right hg' (by simp only [Kep.next]; omega) hp
  have hl := Kep.img_length hg'
  have hn := numOf_img hg'
  have hn' : numOf (k.next (d.k.num + 1)).img = d.k.num + 1 := hn
  have hi := h.img
  rcases ok.wh with wh | wh
  · rw [if_pos wh] at hi
    have hr0 : RightL (Bs d.h0) := by rw [hi]; exact Kep.img_right ok.good n0 ok.p0
    have hn0 : numOf (Bs d.h0) = d.k.num := by rw [hi]; exact numOf_img ok.good
    have e0 : (d.wrote k).h0 = d.h0 := by simp only [Dv.wrote, if_pos wh]
    have e1 : (d.wrote k).h1 = str (k.next (d.k.num + 1)).img := by simp only [Dv.wrote, if_pos wh]
    have e2 : (d.wrote k).wh = 1 := by simp only [Dv.wrote, wh]; rfl
    have e1' : Bs (d.wrote k).h1 = (k.next (d.k.num + 1)).img := by rw [e1]; exact str_list _
    refine ⟨by rw [e0]; exact h.l0, by rw [e1']; exact hl, ?_, ?_⟩
    · rw [e0, e1', e2]
      exact .inr ⟨rfl, told_true hr, .inr ⟨told_true hr0, by omega⟩⟩
    · rw [if_neg (by rw [e2]; omega), e1']; rfl
  · rw [if_neg (by omega)] at hi
    have hr0 : RightL (Bs d.h1) := by rw [hi]; exact Kep.img_right ok.good n0 ok.p0
    have hn0 : numOf (Bs d.h1) = d.k.num := by rw [hi]; exact numOf_img ok.good
    have e0 : (d.wrote k).h1 = d.h1 := by simp only [Dv.wrote]; rw [if_neg (by omega)]
    have e1 : (d.wrote k).h0 = str (k.next (d.k.num + 1)).img := by simp only [Dv.wrote]; rw [if_neg (by omega)]
    have e2 : (d.wrote k).wh = 0 := by simp only [Dv.wrote, wh]; rfl
    have e1' : Bs (d.wrote k).h0 = (k.next (d.k.num + 1)).img := by rw [e1]; exact str_list _
    refine ⟨by rw [e1']; exact hl, by rw [e0]; exact h.l1, ?_, ?_⟩
    · rw [e0, e1', e2]
      exact .inl ⟨rfl, told_true hr, .inr ⟨told_true hr0, by omega⟩⟩
    · rw [if_pos e2, e1']; rfl

/-- a write of an image, by the document's device -/
theorem prog_writeF (F : World → Prop) (w : World) (g j : Nat) (d : Dv) (k : Kep) (x : UInt8) (hR : PdAt w g d) (hf : d.fit) (ok : d.sound) (hg : k.good) (hn : k.num = d.k.num) (hw : ¬ 4294967295 ≤ d.k.num)
    (hW : Row w j (bcells (k.raw x)) 75) (hc : whole d.cut) (hgj : ¬ g = j) (hw0 : F w) (hFg : ∀ a b, F a → a.grownBy b (some g) → F b) (hFj : ∀ a b, F a → a.grownBy b (some j) → F b) :
    Calls Tryd.prog 87 #[.pointer (some ⟨g, 0, none⟩), .pointer (some ⟨j, 0, none⟩)] w fun r w' => r = .returned (.tuple #[]) ∧
      PdAt w' g (d.wrote k) ∧ (∃ y, Row w' j (bcells ((k.next (d.k.num + 1)).raw y)) 75) ∧ F w' := by
  have n0 := ok.n0
  have hT : turned (k.raw x) = (k.next (d.k.num + 1)).img := by rw [Kep.raw_turned hg (by omega), hn]
  have hg' : (k.next (d.k.num + 1)).good := ⟨by simp only [Kep.next]; omega, by simp only [Kep.next]; omega, hg.t0, hg.t1, hg.pin, hg.k0, hg.k1, hg.k2, hg.k3⟩
  have hT0 : (turned (k.raw x)).set 0 167 = (k.next (d.k.num + 1)).img := by rw [hT]; exact Kep.img_set0 hg'
  rcases ok.wh with wh | wh
  · have hkp := hf.keeps
    rw [wh] at hkp
    refine (prog_write F w g j (Bs d.h0) (Bs d.h1) (k.raw x) d.pw d.unl d.inn 0 1 hR hf.l0 hf.l1 hkp hW (Kep.raw_length hg) hgj hw0 hFg hFj rfl (pw_bears hc)).mono ?_
    rintro r w' ⟨rfl, h1, h2, h3⟩
    rw [hT0] at h1
    rw [hT, Kep.img_raw hg'] at h2
    refine ⟨rfl, ?_, ⟨_, h2⟩, h3⟩
    have e : List.take (100 * 1) (Bs d.h0 ++ Bs d.h1) ++ (k.next (d.k.num + 1)).img ++ List.drop (100 * 1 + 100) (Bs d.h0 ++ Bs d.h1) = Bs (d.wrote k).h0 ++ Bs (d.wrote k).h1 := by
      have e0 : (d.wrote k).h0 = d.h0 := by simp only [Dv.wrote, if_pos wh]
      have e1 : (d.wrote k).h1 = str (k.next (d.k.num + 1)).img := by simp only [Dv.wrote, if_pos wh]
      rw [e0, e1, Nat.mul_one, take_left' hf.l0, List.drop_of_length_le (by rw [List.length_append, hf.l0, hf.l1]; omega), List.append_nil]
      exact congrArg _ (str_list _).symm
    rw [e, ← pw_wrote k hc] at h1
    exact h1
  · have hkp := hf.keeps
    rw [wh] at hkp
    refine (prog_write F w g j (Bs d.h0) (Bs d.h1) (k.raw x) d.pw d.unl d.inn 1 0 hR hf.l0 hf.l1 hkp hW (Kep.raw_length hg) hgj hw0 hFg hFj rfl (pw_bears hc)).mono ?_
    rintro r w' ⟨rfl, h1, h2, h3⟩
    rw [hT0] at h1
    rw [hT, Kep.img_raw hg'] at h2
    refine ⟨rfl, ?_, ⟨_, h2⟩, h3⟩
    have e : List.take (100 * 0) (Bs d.h0 ++ Bs d.h1) ++ (k.next (d.k.num + 1)).img ++ List.drop (100 * 0 + 100) (Bs d.h0 ++ Bs d.h1) = Bs (d.wrote k).h0 ++ Bs (d.wrote k).h1 := by
      have e0 : (d.wrote k).h1 = d.h1 := by simp only [Dv.wrote]; rw [if_neg (by omega)]
      have e1 : (d.wrote k).h0 = str (k.next (d.k.num + 1)).img := by simp only [Dv.wrote]; rw [if_neg (by omega)]
      rw [e0, e1, Nat.mul_zero, List.take_zero, List.nil_append, List.drop_append_of_le_length (by rw [hf.l0]; omega), List.drop_of_length_le (by rw [hf.l0]; omega), List.nil_append]
      exact congrArg (· ++ Bs d.h1) (str_list _).symm
    rw [e, ← pw_wrote k hc] at h1
    exact h1

theorem prog_writeD (w0 w : World) (g j : Nat) (d : Dv) (k : Kep) (x : UInt8) (hR : PdAt w g d) (hf : d.fit) (ok : d.sound) (hg : k.good) (hn : k.num = d.k.num) (hw : ¬ 4294967295 ≤ d.k.num)
    (hW : Row w j (bcells (k.raw x)) 75) (hc : whole d.cut) (hgj : ¬ g = j) (hgr : Two g j w0 w) :
    Calls Tryd.prog 87 #[.pointer (some ⟨g, 0, none⟩), .pointer (some ⟨j, 0, none⟩)] w fun r w' => r = .returned (.tuple #[]) ∧
      PdAt w' g (d.wrote k) ∧ (∃ y, Row w' j (bcells ((k.next (d.k.num + 1)).raw y)) 75) ∧ Two g j w0 w' :=
  prog_writeF (fun W => Two g j w0 W) w g j d k x hR hf ok hg hn hw hW hc hgj hgr (fun _ _ h1 h2 => h1.trans (.of1 h2)) (fun _ _ h1 h2 => h1.trans (.of2 h2))

/-- what a command leaves when the power has gone in its middle, its work's image too -/
def PLost (w0 : World) (g j : Nat) (d : Dv) (w' : World) : Prop := PdLost w' g d ∧ (∃ l : List UInt8, l.length = 100 ∧ Row w' j (bcells l) 75) ∧ Two g j w0 w'

theorem torn_bs (n : Nat) (t : List UInt8) (old : ByteArray) : Bs (tornB n t old) = if n = 0 then Bs old else 0 :: (t.drop 1).take (n - 1) ++ (Bs old).drop n := by
  unfold tornB
  split
  · rfl
  · exact str_list _

/-- a write in whose middle the power goes, by the document's device -/
theorem prog_writeT (w0 w : World) (g j : Nat) (d : Dv) (k : Kep) (x : UInt8) (hR : PdAt w g d) (hf : d.fit) (ok : d.sound) (hg : k.good) (hn : k.num = d.k.num) (hw : ¬ 4294967295 ≤ d.k.num)
    (hW : Row w j (bcells (k.raw x)) 75) (hc : 0 ≤ d.cut ∧ d.cut < 101) (hgj : ¬ g = j) (hgr : Two g j w0 w) :
    Calls Tryd.prog 87 #[.pointer (some ⟨g, 0, none⟩), .pointer (some ⟨j, 0, none⟩)] w fun r w' => r = lost ∧ PLost w0 g j (d.torn k) w' := by
  have n0 := ok.n0
  have hT : turned (k.raw x) = (k.next (d.k.num + 1)).img := by rw [Kep.raw_turned hg (by omega), hn]
  have hg' : (k.next (d.k.num + 1)).good := ⟨by simp only [Kep.next]; omega, by simp only [Kep.next]; omega, hg.t0, hg.t1, hg.pin, hg.k0, hg.k1, hg.k2, hg.k3⟩
  have hil := Kep.img_length hg'
  obtain ⟨n, hcn⟩ : ∃ n : Nat, d.cut = n := ⟨d.cut.toNat, by omega⟩
  have hcn' : d.cut.toNat = n := by omega
  rcases ok.wh with wh | wh
  · have hkp := hf.keeps
    rw [wh] at hkp
    refine (prog_write_lost (fun W => Two g j w0 W) w g j (Bs d.h0) (Bs d.h1) (k.raw x) d.pw d.unl d.inn 0 1 hR hf.l0 hf.l1 hkp hW (Kep.raw_length hg) hgj hgr (fun _ _ h1 h2 => h1.trans (.of1 h2)) (fun _ _ h1 h2 => h1.trans (.of2 h2)) rfl n (pw_ending hc.1).1 ((pw_ending hc.1).2.trans hcn) (by omega)).mono ?_
    rintro r w' ⟨rfl, h1, h2, h3⟩
    rw [hT] at h1 h2
    have e : (if n = 0 then Bs d.h0 ++ Bs d.h1 else torn (Bs d.h0 ++ Bs d.h1) (100 * 1) (k.next (d.k.num + 1)).img n) = Bs (d.torn k).h0 ++ Bs (d.torn k).h1 := by
      have e0 : (d.torn k).h0 = d.h0 := by simp only [Dv.torn, if_pos wh]
      have e1 : (d.torn k).h1 = tornB n (k.next (d.k.num + 1)).img d.h1 := by simp only [Dv.torn, if_pos wh, hcn']
      rw [e0, e1, torn_bs]
      by_cases hz : n = 0
      · rw [if_pos hz, if_pos hz]
      · rw [if_neg hz, if_neg hz]
        unfold torn
        have ed : (Bs d.h0 ++ Bs d.h1).drop (100 + n) = (Bs d.h1).drop n := by rw [List.drop_append, hf.l0, List.drop_of_length_le (by rw [hf.l0]; omega), List.nil_append, Nat.add_sub_cancel_left]
        rw [Nat.mul_one, take_left' hf.l0, ed, List.append_assoc]
    rw [e] at h1
    exact ⟨rfl, ⟨_, _, _, h1⟩, ⟨_, hil, h2⟩, h3⟩
  · have hkp := hf.keeps
    rw [wh] at hkp
    refine (prog_write_lost (fun W => Two g j w0 W) w g j (Bs d.h0) (Bs d.h1) (k.raw x) d.pw d.unl d.inn 1 0 hR hf.l0 hf.l1 hkp hW (Kep.raw_length hg) hgj hgr (fun _ _ h1 h2 => h1.trans (.of1 h2)) (fun _ _ h1 h2 => h1.trans (.of2 h2)) rfl n (pw_ending hc.1).1 ((pw_ending hc.1).2.trans hcn) (by omega)).mono ?_
    rintro r w' ⟨rfl, h1, h2, h3⟩
    rw [hT] at h1 h2
    have e : (if n = 0 then Bs d.h0 ++ Bs d.h1 else torn (Bs d.h0 ++ Bs d.h1) (100 * 0) (k.next (d.k.num + 1)).img n) = Bs (d.torn k).h0 ++ Bs (d.torn k).h1 := by
      have e0 : (d.torn k).h1 = d.h1 := by simp only [Dv.torn]; rw [if_neg (by omega)]
      have e1 : (d.torn k).h0 = tornB n (k.next (d.k.num + 1)).img d.h0 := by simp only [Dv.torn, hcn']; rw [if_neg (by omega)]
      rw [e0, e1, torn_bs]
      by_cases hz : n = 0
      · rw [if_pos hz, if_pos hz]
      · rw [if_neg hz, if_neg hz]
        unfold torn
        rw [Nat.mul_zero, List.take_zero, List.nil_append, Nat.zero_add, List.drop_append_of_le_length (by rw [hf.l0]; omega), ← List.append_assoc]
    rw [e] at h1
    exact ⟨rfl, ⟨_, _, _, h1⟩, ⟨_, hil, h2⟩, h3⟩
end Go.Proofs.YtaokemapkgggoaaDoor

namespace Go.Proofs.YtaokemapkgggoaaDoor
open Go.RowKit

theorem fit_len {d : Dv} (f : d.fit) : (Bs d.h0 ++ Bs d.h1).length = 200 := by rw [List.length_append, f.l0, f.l1]
theorem dcells_u (f : List UInt8) (q : Pw) (u : Bool) (c : ByteArray) (h : f.length = 200) : (dcells f q u c)[203]? = some (.bool u) := dcells_at f q u c 3 h
theorem dcells_c (f : List UInt8) (q : Pw) (u : Bool) (c : ByteArray) (h : f.length = 200) : (dcells f q u c)[204]? = some (.string c) := dcells_at f q u c 4 h
theorem dcells_setu (f : List UInt8) (q : Pw) (u b : Bool) (c : ByteArray) (h : f.length = 200) : (dcells f q u c).set 203 (.bool b) = dcells f q b c := dcells_put f q u c 3 _ h
theorem dcells_setc (f : List UInt8) (q : Pw) (u : Bool) (c e : ByteArray) (h : f.length = 200) : (dcells f q u c).set 204 (.string e) = dcells f q u e := dcells_put f q u c 4 _ h
theorem PdAt.cu {w : World} {g : Nat} {d : Dv} (h : PdAt w g d) (f : d.fit) : w.cell? ⟨g, 203, none⟩ = some (.bool d.unl) := by
  rw [Row.cell h]; exact dcells_u _ _ _ _ (fit_len f)
theorem PdAt.cc {w : World} {g : Nat} {d : Dv} (h : PdAt w g d) (f : d.fit) : w.cell? ⟨g, 204, none⟩ = some (.string d.inn) := by
  rw [Row.cell h]; exact dcells_c _ _ _ _ (fit_len f)
theorem PdAt.setu {w : World} {g : Nat} {d : Dv} (h : PdAt w g d) (f : d.fit) (b : Bool) : PdAt (w.setCell ⟨g, 203, none⟩ (.bool b)) g { d with unl := b } := by
  have := Row.setCell h 203 (.bool b)
  rwa [dcells_setu _ _ _ _ _ (fit_len f)] at this
theorem PdAt.setc {w : World} {g : Nat} {d : Dv} (h : PdAt w g d) (f : d.fit) (c : ByteArray) : PdAt (w.setCell ⟨g, 204, none⟩ (.string c)) g { d with inn := c } := by
  have := Row.setCell h 204 (.string c)
  rwa [dcells_setc _ _ _ _ _ (fit_len f)] at this
theorem PdAt.lt {w : World} {g : Nat} {d : Dv} (h : PdAt w g d) : g < w.heap.size := Row.lt h

set_option maxRecDepth 100000 in
set_option maxHeartbeats 1000000 in
theorem prog_lock (w : World) (g : Nat) (d : Dv) (p : ByteArray) (h : PdAt w g d) (f : d.fit) :
    Calls Tryd.prog 80 #[.pointer (some ⟨g, 0, none⟩), .string p] w fun r w' => r = .returned (.int .u8 (d.command 2 p).2.1) ∧ PdAt w' g (d.command 2 p).1 ∧ w.grownBy w' (some g) := by
  rw [show d.command 2 p = (if p.size = 0 then (d.lock, 0, []) else (d, 4, [])) by unfold Dv.command; rw [if_neg (by omega), if_pos rfl]]
  have cu := h.cu f
  have fz := Row.frozen h 203
  by_cases h0 : p.size = 0
  · rw [if_pos h0]
    obtain rfl := empty_of_size h0
    go_enter Tryd.func80, Tryd.ntmps80
    go_wp2
    go_ret
    exact ⟨rfl, h.setu f false, grown_set (World.grownBy.refl _ _) _ _⟩
  · rw [if_neg h0]
    have hne := toList_ne_nil h0
    go_enter Tryd.func80, Tryd.ntmps80
    go_wp2
    go_ret
    exact ⟨rfl, h, World.grownBy.refl _ _⟩

theorem ret_pairB {st : Int} {a b : ByteArray} (h : a = b) : Ending.returned (.tuple #[.int .u8 st, .string a]) = .returned (.tuple #[.int .u8 st, .string b]) := by rw [h]
theorem str3 {a b c : Int} (a0 : 0 ≤ a) (a1 : a < 256) (b0 : 0 ≤ b) (b1 : b < 256) (c0 : 0 ≤ c) (c1 : c < 256) : strOfNums [a, b, c] = str [b8 a, b8 b, b8 c] := by
  rw [strOfNums_str]
  simp only [toBytes, List.map_cons, List.map_nil]
  rw [toBytes_b8 a0 a1, toBytes_b8 b0 b1, toBytes_b8 c0 c1]

set_option maxRecDepth 100000 in
set_option maxHeartbeats 1000000 in
theorem prog_tell (w : World) (g j : Nat) (d : Dv) (x : UInt8) (p : ByteArray) (h : PdAt w g d) (f : d.fit) (ok : d.sound) (hW : Row w j (bcells (d.k.raw x)) 75) :
    Calls Tryd.prog 85 #[.pointer (some ⟨g, 0, none⟩), .pointer (some ⟨j, 0, none⟩), .string p] w fun r w' => r = .returned (.tuple #[.int .u8 (d.command 7 p).2.1, .string (str (d.command 7 p).2.2)]) ∧ (d.command 7 p).1 = d ∧ Below w.heap.size w w' := by
  rw [show d.command 7 p = (if p.size = 0 then (d, 0, [b8 (if d.unl then 1 else 0), b8 d.k.tries, b8 (d.k.bits 4)]) else (d, 4, [])) by unfold Dv.command; rw [if_neg (by omega), if_neg (by omega), if_pos rfl]]
  have cu := h.cu f
  by_cases h0 : p.size = 0
  · rw [if_pos h0]
    obtain rfl := empty_of_size h0
    have I0 : Hid (ImgAt w j 0 (d.k.raw x)) := ImgAt.of_row hW (Kep.raw_length ok.good)
    have c5 := I0.out.b 5 (by omega)
    rw [Nat.zero_add, Kep.raw_tries ok.good] at c5
    have hcv := fun (W : World) a b c => conv3d W a b c W.heap.size rfl
    have hcall := prog_slotBits w.drew j (d.k.raw x) (I0.out.drewN 1)
    rw [Kep.raw_bits ok.good 4 (Nat.le_refl _)] at hcall
    obtain ⟨hb0, hb1⟩ := d.k.bits_bd 4 (Nat.le_refl _)
    have ht0 := ok.t0
    have ht1 := ok.t1
    by_cases hu : d.unl = true
    · rw [hu] at cu
      rw [if_pos hu]
      have HE : Hid (strOfNums [1, d.k.tries, d.k.bits 4] = str [b8 1, b8 d.k.tries, b8 (d.k.bits 4)]) := str3 (by omega) (by omega) ht0 (by omega) hb0 (Int.lt_trans hb1 (by decide))
      generalize d.k.bits 4 = bb at *
      go_enter Tryd.func85, Tryd.ntmps85
      go_wp2
      go_region_with (go_at_call 90; refine hcall.mono ?_; rintro _ w9 ⟨rfl, e9⟩; rw [e9]; clear e9 w9)
      all_goals
        simp only [List.getElem_toArray, List.getElem_cons_succ, List.getElem_cons_zero, Act.put, List.setIfInBounds_toArray, List.set_cons_succ, List.set_cons_zero]
        go_wp2
        go_ret2
        exact ⟨ret_pairB HE.out, trivial, ((Below.refl _ _).alloc (Nat.le_refl _) _).drew⟩
    · have hu' : d.unl = false := by simpa using hu
      rw [hu'] at cu
      rw [if_neg hu]
      have HE : Hid (strOfNums [0, d.k.tries, d.k.bits 4] = str [b8 0, b8 d.k.tries, b8 (d.k.bits 4)]) := str3 (by omega) (by omega) ht0 (by omega) hb0 (Int.lt_trans hb1 (by decide))
      generalize d.k.bits 4 = bb at *
      go_enter Tryd.func85, Tryd.ntmps85
      go_wp2
      go_region_with (go_at_call 90; refine hcall.mono ?_; rintro _ w9 ⟨rfl, e9⟩; rw [e9]; clear e9 w9)
      all_goals
        simp only [List.getElem_toArray, List.getElem_cons_succ, List.getElem_cons_zero, Act.put, List.setIfInBounds_toArray, List.set_cons_succ, List.set_cons_zero]
        go_wp2
        go_ret2
        exact ⟨ret_pairB HE.out, trivial, ((Below.refl _ _).alloc (Nat.le_refl _) _).drew⟩
  · rw [if_neg h0]
    have hne := toList_ne_nil h0
    go_enter Tryd.func85, Tryd.ntmps85
    go_wp2
    go_ret2
    exact ⟨rfl, trivial, Below.refl _ _⟩
end Go.Proofs.YtaokemapkgggoaaDoor
