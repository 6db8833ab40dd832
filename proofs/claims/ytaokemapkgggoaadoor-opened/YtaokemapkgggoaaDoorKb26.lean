import Derived.Test.YtaokemapkgggoaaDoorKb19
import Derived.Test.YtaokemapkgggoaaDoorKb20
import Derived.Test.YtaokemapkgggoaaDoorKb18
import Derived.Test.YtaokemapkgggoaaDoorKb25
import Derived.Test.YtaokemapkgggoaaDoorKb15
import Derived.Lib.Builder
import Derived.Laws.Externs
import Derived.Shelf.Strings.Builder1
import Derived.Shelf.LaysM
import Derived.Shelf.Strconv.Clone
namespace Go.Proofs.YtaokemapkgggoaaDoor
open Go.RowKit

theorem told_yes {l : List UInt8} (hl : l.length = 100) (h : readOk l) : Told l true := ⟨fun _ => read_right l hl h, fun e => by cases e⟩
theorem told_no {l : List UInt8} (h : ¬ readOk l) : Told l false := ⟨fun e => (by cases e), fun _ x => h (right_read l x)⟩
/-- what stands in the flash, for the program's side -/
theorem Dv.stands.fit {d : Dv} (h : d.stands) (S : d.sound) : d.fit := by
  have l0 : (Bs d.h0).length = 100 := by rw [Bs_len]; exact S.s0
  have l1 : (Bs d.h1).length = 100 := by rw [Bs_len]; exact S.s1
  obtain ⟨hw, hr, hs, ho⟩ := h
  rcases hw with e | e
  · rw [if_pos e] at hr hs ho
    rw [if_pos e] at ho
    refine ⟨l0, l1, ?_, ?_⟩
    · rw [e]
      refine .inl ⟨rfl, told_yes l0 hr, ?_⟩
      by_cases h1 : readOk (Bs d.h1)
      · refine .inr ⟨told_yes l1 h1, ?_⟩
        rcases ho with x | x
        · exact absurd h1 x
        · rw [← hs] at x
          exact x
      · exact .inl (told_no h1)
    · rw [if_pos e, ← hs]
      exact hr.2.2.symm
  · rw [if_neg (by omega)] at hr hs ho
    rw [if_neg (by omega)] at ho
    refine ⟨l0, l1, ?_, ?_⟩
    · rw [e]
      refine .inr ⟨rfl, told_yes l1 hr, ?_⟩
      by_cases h0 : readOk (Bs d.h0)
      · refine .inr ⟨told_yes l0 h0, ?_⟩
        rcases ho with x | x
        · exact absurd h0 x
        · rw [← hs] at x
          exact x
      · exact .inl (told_no h0)
    · rw [if_neg (by omega), ← hs]
      exact hr.2.2.symm
end Go.Proofs.YtaokemapkgggoaaDoor

namespace Go.Proofs.YtaokemapkgggoaaDoor
open Go.RowKit

theorem put_withIn (d : Dv) (l : List UInt8) (k : Kep) : (d.withIn l).put k = (d.put k).withIn l := by
  unfold Dv.put
  rw [show (d.withIn l).cut = d.cut from rfl]
  split <;> rfl
theorem Dv.unlockC_withIn (d : Dv) (l : List UInt8) (p : ByteArray) : (d.withIn l).unlockC p = ((d.unlockC p).1.withIn l, (d.unlockC p).2) := by
  unfold Dv.unlockC
  simp only [show (d.withIn l).k = d.k from rfl, show (d.withIn l).cut = d.cut from rfl, show ∀ k, ((d.withIn l).wrote k).cut = (d.wrote k).cut from fun _ => rfl]
  split
  · rfl
  split
  · rfl
  split
  · rfl
  split
  · rfl
  split
  · dsimp only
    split
    · rw [show ((d.withIn l).wrote d.k.less).lock = ((d.wrote d.k.less).lock).withIn l from rfl, put_withIn]
    · rfl
  split
  · rfl
  split <;> rfl
theorem Dv.slot_withIn (d : Dv) (l : List UInt8) (kind : Int) (p : ByteArray) : (d.withIn l).slot kind p = ((d.slot kind p).1.withIn l, (d.slot kind p).2) := by
  unfold Dv.slot
  simp only [show (d.withIn l).k = d.k from rfl, show (d.withIn l).unl = d.unl from rfl]
  repeat' split
  all_goals rfl
theorem Dv.unlock_withIn (d : Dv) (l : List UInt8) (p : ByteArray) : (d.withIn l).unlock p = ((d.unlock p).1.withIn l, (d.unlock p).2) := by
  unfold Dv.unlock
  simp only [show (d.withIn l).k = d.k from rfl]
  split
  · rfl
  split
  · rfl
  split
  · rfl
  split
  · dsimp only
    split <;> rfl
  split <;> rfl
theorem Dv.command_withIn (d : Dv) (l : List UInt8) (kind : Int) (p : ByteArray) : (d.withIn l).command kind p = ((d.command kind p).1.withIn l, (d.command kind p).2) := by
  unfold Dv.command
  rw [Dv.unlock_withIn, Dv.slot_withIn]
  simp only [show (d.withIn l).k = d.k from rfl, show (d.withIn l).unl = d.unl from rfl]
  repeat' split
  all_goals rfl
theorem Dv.commandC_withIn (d : Dv) (l : List UInt8) (kind : Int) (p : ByteArray) : (d.withIn l).commandC kind p = ((d.commandC kind p).1.withIn l, (d.commandC kind p).2) := by
  unfold Dv.commandC Dv.slotC
  rw [Dv.unlockC_withIn, Dv.slot_withIn, Dv.command_withIn]
  simp only [show (d.withIn l).k = d.k from rfl, show (d.withIn l).unl = d.unl from rfl, put_withIn]
  repeat' split
  all_goals rfl
theorem feedC_withIn (n : Nat) (d : Dv) (x l : List UInt8) : feedC n (d.withIn x) l = feedC n d l := by cases n <;> rfl
theorem feedC_dev {n : Nat} {d e : Dv} {x : List UInt8} (h : e = d.withIn x) (l : List UInt8) : feedC n e l = feedC n d l := by rw [h]; exact feedC_withIn n d x l

theorem skip_idem (l : List UInt8) : skip (skip l) = skip l := by
  unfold skip
  induction l with
  | nil => rfl
  | cons a l ih =>
    rw [List.dropWhile_cons]
    split
    · exact ih
    · rename_i h
      rw [List.dropWhile_cons, if_neg h]
theorem skip_app (a b : List UInt8) : skip (a ++ b) = skip (skip a ++ b) := by
  unfold skip
  induction a with
  | nil => rfl
  | cons x a ih =>
    rw [List.cons_append, List.dropWhile_cons, List.dropWhile_cons]
    split
    · exact ih
    · rename_i h
      rw [List.cons_append, List.dropWhile_cons, if_neg h]
theorem skip_app_ne (a b : List UInt8) (h : skip a ≠ []) : skip (a ++ b) = skip a ++ b := by
  unfold skip at h ⊢
  induction a with
  | nil => exact absurd rfl h
  | cons x a ih =>
    rw [List.cons_append, List.dropWhile_cons]
    rw [List.dropWhile_cons] at h ⊢
    split
    · rename_i hx
      rw [if_pos hx] at h
      exact ih h
    · rfl
theorem feedC_skip {n : Nat} {d : Dv} {l t : List UInt8} (h : skip l = skip t) : feedC (n + 1) d l = feedC (n + 1) d t := by
  unfold feedC
  rw [h]

theorem feedC_fuel : ∀ (n m : Nat) (d : Dv) (l : List UInt8), l.length < n → l.length < m → feedC n d l = feedC m d l
  | 0, _, _, _, h, _ => absurd h (by omega)
  | _ + 1, 0, _, _, _, h => absurd h (by omega)
  | n + 1, m + 1, d, l, h1, h2 => by
    have hsl := skip_length l
    by_cases ho : d.off = true
    · rw [feedC_off ho, feedC_off ho]
    · have ho' : d.off = false := by simpa using ho
      by_cases hw : (skip l).length < 2 ∨ (fLen (skip l) ≤ 48 ∧ (skip l).length < fLen (skip l) + 4)
      · rw [feedC_wait ho' rfl hw, feedC_wait ho' rfl hw]
      · by_cases hb : 48 < fLen (skip l) ∨ ¬ (1 + sumB (((skip l).drop 1).take (fLen (skip l) + 2))) % 256 = (bytesI (skip l)).getD (fLen (skip l) + 3) 0
        · rw [feedC_bad ho' rfl hw hb, feedC_bad ho' rfl hw hb, feedC_fuel n m _ _ (by rw [List.length_drop]; omega) (by rw [List.length_drop]; omega)]
        · rw [feedC_cmd ho' rfl hw hb rfl, feedC_cmd ho' rfl hw hb rfl, feedC_fuel n m _ _ (by rw [List.length_drop]; omega) (by rw [List.length_drop]; omega)]

theorem fLen_app {s b : List UInt8} (h : 2 ≤ s.length) : fLen (s ++ b) = fLen s := by
  match s, h with
  | x :: y :: r, _ => rfl
theorem getD_app (s b : List UInt8) (i : Nat) (h : i < s.length) : (bytesI (s ++ b)).getD i 0 = (bytesI s).getD i 0 := by
  simp only [bytesI, List.getD_eq_getElem?_getD, List.map_append]
  rw [List.getElem?_append_left (by simpa using h)]
theorem drop_take_app (s b : List UInt8) (i n : Nat) (h : i + n ≤ s.length) : ((s ++ b).drop i).take n = (s.drop i).take n := by
  rw [List.drop_append_of_le_length (by omega), List.take_append_of_le_length (by rw [List.length_drop]; omega)]

/-- bytes in two pieces are answered as all at once -/
theorem feedC_append : ∀ (n : Nat) (d : Dv) (a b : List UInt8), a.length < n → ∀ m k, (a ++ b).length < m → ((feedC n d a).2.inn.data.toList ++ b).length < k →
    feedC m d (a ++ b) = ((feedC n d a).1 ++ (feedC k (feedC n d a).2 ((feedC n d a).2.inn.data.toList ++ b)).1, (feedC k (feedC n d a).2 ((feedC n d a).2.inn.data.toList ++ b)).2)
  | 0, _, _, _, h, _, _, _, _ => absurd h (by omega)
  | n + 1, d, a, b, h, m, k, hm, hk => by
    obtain ⟨m, rfl⟩ : ∃ m', m = m' + 1 := ⟨m - 1, by omega⟩
    obtain ⟨k, rfl⟩ : ∃ k', k = k' + 1 := ⟨k - 1, by omega⟩
    have hsl := skip_length a
    by_cases ho : d.off = true
    · have e : feedC (n + 1) d a = ([], d.withIn []) := feedC_off ho
      rw [e, feedC_off ho, feedC_off (show (d.withIn []).off = true from ho)]
      rfl
    · have ho' : d.off = false := by simpa using ho
      have hml : a.length + b.length < m + 1 := by rw [List.length_append] at hm; exact hm
      by_cases hw : (skip a).length < 2 ∨ (fLen (skip a) ≤ 48 ∧ (skip a).length < fLen (skip a) + 4)
      · have e : feedC (n + 1) d a = ([], d.withIn (skip a)) := feedC_wait ho' rfl hw
        rw [e] at hk ⊢
        have hin : (d.withIn (skip a)).inn.data.toList = skip a := str_list _
        dsimp only at hk ⊢
        rw [hin] at hk ⊢
        rw [feedC_withIn, List.nil_append, feedC_skip (skip_app a b)]
        have hlen : (skip a ++ b).length < m + 1 := by rw [List.length_append]; omega
        rw [feedC_fuel (m + 1) (k + 1) d (skip a ++ b) hlen hk]
      · have h2 : 2 ≤ (skip a).length := by omega
        have hne : skip a ≠ [] := by intro e; rw [e] at h2; simp at h2
        have hs : skip (a ++ b) = skip a ++ b := skip_app_ne a b hne
        have hfl : fLen (skip a ++ b) = fLen (skip a) := fLen_app h2
        have hw' : ¬ ((skip a ++ b).length < 2 ∨ (fLen (skip a ++ b) ≤ 48 ∧ (skip a ++ b).length < fLen (skip a ++ b) + 4)) := by rw [hfl, List.length_append]; omega
        by_cases hb : 48 < fLen (skip a) ∨ ¬ (1 + sumB (((skip a).drop 1).take (fLen (skip a) + 2))) % 256 = (bytesI (skip a)).getD (fLen (skip a) + 3) 0
        · have hb' : 48 < fLen (skip a ++ b) ∨ ¬ (1 + sumB (((skip a ++ b).drop 1).take (fLen (skip a ++ b) + 2))) % 256 = (bytesI (skip a ++ b)).getD (fLen (skip a ++ b) + 3) 0 := by
            rw [hfl]
            by_cases h48 : 48 < fLen (skip a)
            · exact .inl h48
            · right
              rw [drop_take_app _ _ _ _ (by omega), getD_app _ _ _ (by omega)]
              exact hb.resolve_left h48
          have e := feedC_bad (n := n) ho' rfl hw hb
          rw [e] at hk ⊢
          dsimp only at hk ⊢
          rw [feedC_withIn] at hk ⊢
          rw [feedC_bad ho' hs hw' hb', feedC_withIn, List.drop_append_of_le_length (by omega)]
          rw [feedC_append n d ((skip a).drop 1) b (by rw [List.length_drop]; omega) m (k + 1) (by rw [List.length_append, List.length_drop]; omega) hk, List.append_assoc]
        · have h48 : ¬ 48 < fLen (skip a) := fun x => hb (.inl x)
          have hb' : ¬ (48 < fLen (skip a ++ b) ∨ ¬ (1 + sumB (((skip a ++ b).drop 1).take (fLen (skip a ++ b) + 2))) % 256 = (bytesI (skip a ++ b)).getD (fLen (skip a ++ b) + 3) 0) := by
            rw [hfl, drop_take_app _ _ _ _ (by omega), getD_app _ _ _ (by omega)]
            exact hb
          obtain ⟨c, hc⟩ : ∃ c, c = (d.withIn ((skip a).drop (fLen (skip a) + 4))).commandC ((bytesI (skip a)).getD 2 0) (str (((skip a).drop 3).take (fLen (skip a)))) := ⟨_, rfl⟩
          have e := feedC_cmd (n := n) ho' rfl hw hb hc
          rw [e] at hk ⊢
          dsimp only at hk ⊢
          obtain ⟨c', hc'⟩ : ∃ c', c' = (d.withIn ((skip a ++ b).drop (fLen (skip a ++ b) + 4))).commandC ((bytesI (skip a ++ b)).getD 2 0) (str (((skip a ++ b).drop 3).take (fLen (skip a ++ b)))) := ⟨_, rfl⟩
          have hcc : c' = (c.1.withIn ((skip a ++ b).drop (fLen (skip a) + 4)), c.2) := by
            rw [hc', hc, hfl, getD_app _ _ _ (by omega), drop_take_app _ _ _ _ (by omega), Dv.commandC_withIn, Dv.commandC_withIn]
            rfl
          rw [feedC_cmd ho' hs hw' hb' hc', hfl, hcc]
          dsimp only
          rw [show (c.1.withIn ((skip a ++ b).drop (fLen (skip a) + 4))).off = c.1.off from rfl, feedC_withIn, List.drop_append_of_le_length (by omega)]
          rw [feedC_append n c.1 ((skip a).drop (fLen (skip a) + 4)) b (by rw [List.length_drop]; omega) m (k + 1) (by rw [List.length_append, List.length_drop]; omega) hk, List.append_assoc]
end Go.Proofs.YtaokemapkgggoaaDoor

namespace Go.Proofs.YtaokemapkgggoaaDoor
open Go.RowKit

/-- what has come is no part of what a command does -/
def Dv.inB (d : Dv) (c : ByteArray) : Dv := { d with inn := c }
theorem inB_withIn (d : Dv) (c : ByteArray) : d.inB c = d.withIn c.data.toList := by
  unfold Dv.inB Dv.withIn
  rw [list_str]
theorem Dv.commandC_inB (d : Dv) (c : ByteArray) (kind : Int) (p : ByteArray) : (d.inB c).commandC kind p = ((d.commandC kind p).1.inB c, (d.commandC kind p).2) := by
  rw [inB_withIn, inB_withIn, Dv.commandC_withIn]
theorem inB_sound {d : Dv} (h : d.sound) (c : ByteArray) : (d.inB c).sound := by rw [inB_withIn]; exact withIn_sound h _
theorem inB_stands {d : Dv} (h : d.stands) (c : ByteArray) : (d.inB c).stands := by rw [inB_withIn]; exact h.withIn _
theorem inB_fit {d : Dv} (h : d.fit) (c : ByteArray) : (d.inB c).fit := ⟨h.l0, h.l1, h.keeps, h.img⟩
theorem withIn_fit {d : Dv} (h : d.fit) (l : List UInt8) : (d.withIn l).fit := ⟨h.l0, h.l1, h.keeps, h.img⟩
theorem feedC_inB (n : Nat) (d : Dv) (c : ByteArray) (l : List UInt8) : feedC n (d.inB c) l = feedC n d l := by
  cases n <;> rfl

theorem fresh_sound (sm : Nat) (p : ByteArray) (h1 : 1 ≤ p.size) (h2 : p.size ≤ 8) : (Dv.fresh sm p).sound := by
  have hg : (Dv.fresh sm p).k.good := ⟨by simp only [Dv.fresh]; omega, by simp only [Dv.fresh]; omega, by simp only [Dv.fresh]; omega, by simp only [Dv.fresh]; omega, h2, Nat.zero_le _, Nat.zero_le _, Nat.zero_le _, Nat.zero_le _⟩
  refine ⟨by simp only [Dv.fresh]; omega, by simp only [Dv.fresh]; omega, hg.t0, hg.t1, h1, h2, Nat.zero_le _, Nat.zero_le _, Nat.zero_le _, Nat.zero_le _, .inl rfl, by simp only [Dv.fresh]; omega, ?_, ?_⟩
  · have e0 : Bs (Dv.fresh sm p).h0 = (Dv.fresh sm p).k.img := str_list _
    rw [← Bs_len, e0]
    exact Kep.img_length hg
  · have e1 : Bs (Dv.fresh sm p).h1 = List.replicate 100 0 := (str_list _).trans rfl
    rw [← Bs_len, e1]
    rfl
theorem fresh_fit (sm : Nat) (p : ByteArray) (h1 : 1 ≤ p.size) (h2 : p.size ≤ 8) : (Dv.fresh sm p).fit := (fresh_stands sm p h1 h2).fit (fresh_sound sm p h1 h2)
end Go.Proofs.YtaokemapkgggoaaDoor

namespace Go.Proofs.YtaokemapkgggoaaDoor
open Go.RowKit

theorem size_builder : (Tryd.prog.info? 102).map (·.size) = some 2 := by kernel_rfl
theorem lies_builder : liesAt Tryd.prog Tryd.prog.depth 102 (2 / Tryd.prog.cellsOf 102) 0 102 1 = true := by kernel_rfl
theorem under_pb : Tryd.prog.underlying 100 = some (.pointer 102) := by kernel_rfl
theorem under_up : Tryd.prog.underlying 130 = some .unsafePointer := by kernel_rfl

theorem run_noEscape (w : World) (x : Value) : (callFunc 73 #[x]).run Tryd.prog w = .ok (.value x) w := by
  rw [run_callFunc_extern Tryd.func73 (by kernel_rfl) (by kernel_rfl) (by kernel_rfl) (e := Extern.AbiNoEscape.same) (by kernel_rfl), Lib.run_noEscape]
  rfl

set_option maxRecDepth 100000 in
set_option maxHeartbeats 1000000 in
theorem prog_copyCheck_used (b : Nat) (w : World) (h0 : w.cell? ⟨b, 0, none⟩ = some (.pointer (some ⟨b, 0, none⟩))) :
    Calls Tryd.prog 65 #[.pointer (some ⟨b, 0, none⟩)] w fun e w' => e = .returned (.tuple #[]) ∧ w' = w := by
  obtain ⟨j, hj, _⟩ := Option.map_eq_some_iff.1 size_builder
  have hne := Lib.run_neq_ptr_same w ⟨b, 0, none⟩ under_pb hj
  clear hj
  go_enter Tryd.func65, Tryd.ntmps65
  go_wp2
  go_end0
  exact ⟨rfl, rfl⟩

set_option maxRecDepth 100000 in
set_option maxHeartbeats 1000000 in
theorem prog_copyCheck_fresh (b : Nat) (w : World) (h0 : w.cell? ⟨b, 0, none⟩ = some (.pointer none)) (hsh : w.shape? b = some (102, 2)) (hfz : w.frozen? ⟨b, 0, none⟩ = false) :
    Calls Tryd.prog 65 #[.pointer (some ⟨b, 0, none⟩)] w fun e w' => e = .returned (.tuple #[]) ∧ w' = w.setCell ⟨b, 0, none⟩ (.pointer (some ⟨b, 0, none⟩)) := by
  obtain ⟨j, hj, hjs⟩ := Option.map_eq_some_iff.1 size_builder
  have hne := Lib.run_neq_ptr_same (w.setCell ⟨b, 0, none⟩ (.pointer (some ⟨b, 0, none⟩))) ⟨b, 0, none⟩ under_pb hj
  have hto := Lib.run_to_unsafe w ⟨b, 0, none⟩ under_pb under_up hj (by rw [hjs]; decide) hsh (Nat.zero_lt_succ 1)
  have hfrom := Lib.run_from_unsafe w ⟨b, 0, none⟩ under_up under_pb hj hsh lies_builder
  clear hj
  have hex := run_noEscape w (.pointer (some ⟨b, 0, none⟩))
  go_enter Tryd.func65, Tryd.ntmps65
  go_wp2
  go_end0
  exact ⟨rfl, rfl⟩

theorem prog_copyCheck (B b : Nat) (bs : List Value) (w : World) (h : Lib.IsBuilder 102 5 B b bs w) :
    Calls Tryd.prog 65 #[.pointer (some ⟨b, 0, none⟩)] w fun e w' => e = .returned (.tuple #[]) ∧ Lib.BuilderAt 102 5 B b (.pointer (some ⟨b, 0, none⟩)) bs w' ∧ Below B w w' := by
  rcases h with h | h
  · refine (prog_copyCheck_fresh b w h.cell0 h.shape h.frozen0).mono ?_
    rintro e w' ⟨rfl, rfl⟩
    exact ⟨rfl, h.used _, (Below.refl B w).setCell (p := ⟨b, 0, none⟩) h.1 _⟩
  · refine (prog_copyCheck_used b w h.cell0).mono ?_
    rintro e w' ⟨rfl, rfl⟩
    exact ⟨rfl, h, Below.refl B _⟩

set_option maxRecDepth 100000 in
set_option maxHeartbeats 1000000 in
theorem prog_WriteString (B b : Nat) (bs : List Value) (s : ByteArray) (w : World) (h : Lib.IsBuilder 102 5 B b bs w) (hlen : bs.length + s.size ≤ 1000000000) (hBw : B ≤ w.heap.size) :
    Calls Tryd.prog 52 #[.pointer (some ⟨b, 0, none⟩), .string s] w fun e w' => e = .returned (.tuple #[.int .i64 s.size, .nilIface]) ∧ Lib.BuilderAt 102 5 B b (.pointer (some ⟨b, 0, none⟩)) (bs ++ Lib.strCells s) w' ∧ Below B w w' := by
  obtain ⟨i0, hi, hz0, hz1, hz2⟩ := info_parts slB.i
  have HI : Hid _ := hi
  have HZ0 : Hid _ := hz0
  have HZ1 : Hid _ := hz1
  have HZ2 : Hid _ := hz2
  clear hi hz0 hz1 hz2
  go_enter Tryd.func52, Tryd.ntmps52
  go_wp2_with (go_at_call 65; refine (prog_copyCheck B b bs _ h).mono ?_)
  rintro e w1 ⟨rfl, h1, hb1⟩
  obtain ⟨hB, v, hbk, hown, hne⟩ := h1
  have c0 : w1.cell? ⟨b, 0, none⟩ = some (.pointer (some ⟨b, 0, none⟩)) := by rw [Lib.cell_of_heap hbk]; rfl
  have c1 : w1.cell? ⟨b, 1, none⟩ = some v := by rw [Lib.cell_of_heap hbk]; rfl
  go_wp2_with (at_builtin; refine Lib.wpList_append_own_string _ rfl _ _ 28 9 rfl B 5 i0 slB.u under_str HI.out HZ0.out HZ1.out HZ2.out _ _ _ rfl hown s rfl ?c3 ?c4 ?c5 ?_)
  case c3 => unfold maxLen; omega
  case c4 => omega
  case c5 => have := hb1.size; omega
  intro v' w2 hown' hgrow _
  have hlt : b < w1.heap.size := (Array.getElem?_eq_some_iff.1 hbk).1
  have hb2 : w2.heap[b]? = some (.cells #[.pointer (some ⟨b, 0, none⟩), v] 102 (0, 0)) := by
    rw [hgrow.block b hlt (fun e => hne e.symm)]
    exact hbk
  have d0 : w2.cell? ⟨b, 0, none⟩ = some (.pointer (some ⟨b, 0, none⟩)) := by rw [Lib.cell_of_heap hb2]; rfl
  have d1 : w2.cell? ⟨b, 1, none⟩ = some v := by rw [Lib.cell_of_heap hb2]; rfl
  have f1 : w2.frozen? ⟨b, 1, none⟩ = false := Lib.frozen_of_heap hb2 1
  obtain ⟨ao, n', cap, rfl⟩ : ∃ ao n' cap, v' = .slice ao n' cap := by
    rcases hown'.2 with ⟨hv, _⟩ | ⟨g, cap, cur, hv, _⟩
    · exact ⟨_, _, _, hv⟩
    · exact ⟨_, _, _, hv⟩
  go_wp2
  go_ret2
  refine ⟨rfl, ?_, ?_⟩
  · exact Lib.BuilderAt.put (T := 102) (e := 5) hB hb2 (bs' := bs ++ Lib.strCells s) (by simpa [Lib.strCells_length] using hown') (by decide)
  · exact (hb1.grown hgrow (by have := hb1.size; omega) (fun k hk => (hown.lt k hk).1)).setCell (p := ⟨b, 1, none⟩) hB _
end Go.Proofs.YtaokemapkgggoaaDoor

namespace Go.Proofs.YtaokemapkgggoaaDoor
open Go.Shelf
def shelf_lays169_ren : Go.Shelf.Ren := ⟨fun | 169 => 55 | n => n, fun | 70 => 100 | 9 => 9 | 0 => 0 | 72 => 102 | 37 => 28 | 127 => 124 | 3 => 3 | 5 => 5 | n => n, fun | n => n⟩
theorem shelf_lays169 : Go.Proofs.Lays.n169 Tryd.prog shelf_lays169_ren := {
  mixed := by kernel_rfl
  f169 := Tryd.func55.trans (congrArg some (by kernel_rfl))
  t0 := Tryd.underlying0
  a0 := Tryd.isAgg0
  z0 := Tryd.sizeOf0
  v0 := Tryd.zeroValue0
  t3 := Tryd.underlying3
  a3 := Tryd.isAgg3
  z3 := Tryd.sizeOf3
  v3 := Tryd.zeroValue3
  t9 := Tryd.underlying9
  a9 := Tryd.isAgg9
  z9 := Tryd.sizeOf9
  v9 := Tryd.zeroValue9
  t37 := Tryd.underlying28
  a37 := Tryd.isAgg28
  z37 := Tryd.sizeOf28
  v37 := Tryd.zeroValue28
  t70 := Tryd.underlying100
  a70 := Tryd.isAgg100
  z70 := Tryd.sizeOf100
  v70 := Tryd.zeroValue100
  t72 := Tryd.underlying102
  a72 := Tryd.isAgg102
  z72 := Tryd.sizeOf102
  v72 := Tryd.zeroValue102
  t127 := Tryd.underlying124
  a127 := Tryd.isAgg124
  z127 := Tryd.sizeOf124
  v127 := Tryd.zeroValue124 }
theorem shelf_Builder_Extra_169 : Builder.Extra Tryd.prog shelf_lays169_ren := {
  sizeBuilder := by kernel_rfl
  liesBuilder := by kernel_rfl
  t5 := Tryd.underlying5
  a5 := Tryd.isAgg5
  z5 := Tryd.sizeOf5
  v5 := Tryd.zeroValue5
  infoByte := by kernel_rfl
  cellsByte := by kernel_rfl
  sizeByte := by kernel_rfl
  neB5 := by decide }
open Go.RowKit in
theorem shelf_Builder_String (B b : Nat) (l : List UInt8) (w : World) (h : Lib.IsBuilder 102 5 B b (Lib.byteCells l) w) (h0 : l ≠ []) :
    Calls Tryd.prog 55 #[.pointer (some ⟨b, 0, none⟩)] w fun e w' => e = .returned (.string ⟨l.toArray⟩) ∧ Below B w w' := Any.Builder_String shelf_lays169 shelf_Builder_Extra_169 B b l w h h0
open Go.RowKit in
theorem shelf_Builder_String_empty (B b : Nat) (w : World) (h : Lib.IsBuilder 102 5 B b [] w) (hBw : B ≤ w.heap.size) :
    Calls Tryd.prog 55 #[.pointer (some ⟨b, 0, none⟩)] w fun e w' => e = .returned (.string ⟨#[]⟩) ∧ Below B w w' := Any.Builder_String_empty shelf_lays169 shelf_Builder_Extra_169 B b w h hBw
open Go.RowKit in
theorem shelf_Builder_String_any (B b : Nat) (l : List UInt8) (w : World) (h : Lib.IsBuilder 102 5 B b (Lib.byteCells l) w) (hBw : B ≤ w.heap.size) :
    Calls Tryd.prog 55 #[.pointer (some ⟨b, 0, none⟩)] w fun e w' => e = .returned (.string ⟨l.toArray⟩) ∧ Below B w w' := Any.Builder_String_any shelf_lays169 shelf_Builder_Extra_169 B b l w h hBw
def shelf_laysM316_ren : Go.Shelf.Ren := ⟨fun | 316 => 67 | n => n, fun | 9 => 9 | 3 => 3 | 4 => 4 | 37 => 28 | 0 => 0 | 127 => 124 | 5 => 5 | n => n, fun | n => n⟩
theorem shelf_laysM316 : Go.Proofs.LaysM.n316 Tryd.prog shelf_laysM316_ren := {
  mixed := by kernel_rfl
  f316 := Tryd.func67.trans (congrArg some (by kernel_rfl))
  t0 := Tryd.underlying0
  a0 := Tryd.isAgg0
  z0 := Tryd.sizeOf0
  v0 := Tryd.zeroValue0
  t3 := Tryd.underlying3
  a3 := Tryd.isAgg3
  z3 := Tryd.sizeOf3
  v3 := Tryd.zeroValue3
  t4 := Tryd.underlying4
  a4 := Tryd.isAgg4
  z4 := Tryd.sizeOf4
  v4 := Tryd.zeroValue4
  t9 := Tryd.underlying9
  a9 := Tryd.isAgg9
  z9 := Tryd.sizeOf9
  v9 := Tryd.zeroValue9
  t37 := Tryd.underlying28
  a37 := Tryd.isAgg28
  z37 := Tryd.sizeOf28
  v37 := Tryd.zeroValue28
  t127 := Tryd.underlying124
  a127 := Tryd.isAgg124
  z127 := Tryd.sizeOf124
  v127 := Tryd.zeroValue124
  t5 := Tryd.underlying5
  a5 := Tryd.isAgg5
  z5 := Tryd.sizeOf5
  v5 := Tryd.zeroValue5
  i0 := by kernel_rfl
  i3 := by kernel_rfl
  i4 := by kernel_rfl
  i5 := by kernel_rfl
  i9 := by kernel_rfl
  i37 := by kernel_rfl
  i127 := by kernel_rfl }
open Go.RowKit in
theorem shelf_stringslite_Clone (s : ByteArray) (w : World) (hlim : s.size ≤ 281474976710656) :
    Calls Tryd.prog 67 #[.string s] w fun e w' => e = .returned (.string s) ∧ Below w.heap.size w w' := Any.stringslite_Clone shelf_laysM316 s w hlim
end Go.Proofs.YtaokemapkgggoaaDoor
