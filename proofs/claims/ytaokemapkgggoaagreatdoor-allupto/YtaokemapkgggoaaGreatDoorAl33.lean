import Derived.Test.YtaokemapkgggoaaGreatDoorAl27
import Derived.Test.YtaokemapkgggoaaGreatDoorAl32
namespace Go.Proofs.YtaokemapkgggoaaGreatDoor
open Go.RowKit

theorem Dv.same.put (d : Dv) (k : Kep) : d.same (d.put k) := by unfold Dv.put; split <;> exact ⟨rfl, rfl⟩
theorem Dv.same.trans {a b c : Dv} (h : a.same b) (k : b.same c) : a.same c := ⟨k.sm.trans h.sm, k.inn.trans h.inn⟩
theorem Dv.unlockC_sound {d : Dv} (h : d.sound) (p : ByteArray) : (d.unlockC p).1.sound ∧ d.same (d.unlockC p).1 := by
  unfold Dv.unlockC
  split
  · exact ⟨h, .refl d⟩
  split
  · exact ⟨h, .refl d⟩
  split
  · exact ⟨h, .refl d⟩
  rename_i ht hw
  have hgl := less_goodS h.good ht
  split
  · exact ⟨h.torn hw hgl (by assumption), ⟨rfl, rfl⟩⟩
  have SW := h.wrote hw hgl h.p0
  split
  · dsimp only
    split
    · rename_i hc
      refine ⟨SW.lock.put hc.2 ⟨hgl.n0, hgl.n1, hgl.t0, hgl.t1, hgl.pin, Nat.zero_le _, Nat.zero_le _, Nat.zero_le _, Nat.zero_le _⟩ h.p0, ?_⟩
      exact Dv.same.trans (b := (d.wrote d.k.less).lock) ⟨rfl, rfl⟩ (Dv.same.put _ _)
    · exact ⟨SW.lock, ⟨rfl, rfl⟩⟩
  split
  · exact ⟨SW.lock, ⟨rfl, rfl⟩⟩
  rename_i hw2
  have hgf : d.k.less.full.good := ⟨hgl.n0, hgl.n1, by simp only [Kep.full]; omega, by simp only [Kep.full]; omega, hgl.pin, hgl.k0, hgl.k1, hgl.k2, hgl.k3⟩
  split
  · exact ⟨SW.torn hw2 hgf (by assumption), ⟨rfl, rfl⟩⟩
  · exact ⟨(SW.wrote hw2 hgf h.p0).open, ⟨rfl, rfl⟩⟩
theorem put_pinS (k : Kep) (i : Nat) (q : ByteArray) : (k.put i q).pin = k.pin := by
  unfold Kep.put
  repeat' split
  all_goals rfl
theorem Dv.slotC_sound {d : Dv} (h : d.sound) (kind : Int) (p : ByteArray) : (d.slotC kind p).1.sound ∧ d.same (d.slotC kind p).1 := by
  unfold Dv.slotC
  split
  · rename_i hx
    exact ⟨h.put hx.2.2.2.2 (put_goodS h.good (by have := hx.2.2.2.1; omega)) (by rw [put_pinS]; exact h.p0), Dv.same.put _ _⟩
  · rename_i hx
    unfold Dv.slot
    by_cases hu : d.unl = false
    · rw [if_pos hu]; exact ⟨h, .refl d⟩
    rw [if_neg hu]
    have hu' : d.unl = true := by simpa using hu
    by_cases hb : p.size = 0 ∨ 4 ≤ hd0 p
    · rw [if_pos hb]; exact ⟨h, .refl d⟩
    rw [if_neg hb]
    by_cases h3 : kind = 3
    · by_cases hl : 20 < (rest1 p).size
      · rw [if_pos ⟨h3, hl⟩]; exact ⟨h, .refl d⟩
      · rw [if_neg (fun e => hl e.2)]
        by_cases hw : 4294967295 ≤ d.k.num
        · rw [if_pos ⟨h3, hw⟩]; exact ⟨h, .refl d⟩
        · exact absurd ⟨h3, hu', hb, hl, hw⟩ hx
    · rw [if_neg (fun e => h3 e.1), if_neg (fun e => h3 e.1), if_neg h3]
      repeat' split
      all_goals exact ⟨h, .refl d⟩
theorem Dv.commandC_sound {d : Dv} (h : d.sound) (kind : Int) (p : ByteArray) : (d.commandC kind p).1.sound ∧ d.same (d.commandC kind p).1 := by
  unfold Dv.commandC
  split
  · exact Dv.unlockC_sound h p
  rename_i h1
  split
  · exact Dv.slotC_sound h kind p
  rename_i h3
  split
  · rename_i hx
    exact ⟨h.put hx.2.2.2 ⟨h.good.n0, h.good.n1, h.good.t0, h.good.t1, by show p.size ≤ 8; have := hx.2.2.1; omega, h.k0, h.k1, h.k2, h.k3⟩ (by show 1 ≤ p.size; have := hx.2.2.1; omega), Dv.same.put _ _⟩
  rename_i hx
  unfold Dv.command
  rw [if_neg h1]
  split
  · split
    · exact ⟨h.lock, ⟨rfl, rfl⟩⟩
    · exact ⟨h, .refl d⟩
  split
  · split <;> exact ⟨h, .refl d⟩
  split
  · rename_i h6
    by_cases hu : d.unl = false
    · rw [if_pos hu]; exact ⟨h, .refl d⟩
    · rw [if_neg hu]
      by_cases hp : p.size < 1 ∨ 8 < p.size
      · rw [if_pos hp]; exact ⟨h, .refl d⟩
      · rw [if_neg hp]
        by_cases hw : 4294967295 ≤ d.k.num
        · rw [if_pos hw]; exact ⟨h, .refl d⟩
        · exact absurd ⟨h6, by simpa using hu, hp, hw⟩ hx
  · exact ⟨h, .refl d⟩
theorem Dv.unlockC_len (d : Dv) (p : ByteArray) : (d.unlockC p).2.2.length ≤ 32 ∧ 0 ≤ (d.unlockC p).2.1 ∧ (d.unlockC p).2.1 < 256 := by
  unfold Dv.unlockC
  repeat' split
  all_goals (simp <;> omega)
theorem Dv.commandC_len (d : Dv) (kind : Int) (p : ByteArray) : (d.commandC kind p).2.2.length ≤ 32 ∧ 0 ≤ (d.commandC kind p).2.1 ∧ (d.commandC kind p).2.1 < 256 := by
  unfold Dv.commandC
  split
  · exact d.unlockC_len p
  split
  · unfold Dv.slotC
    split
    · simp
    · exact d.slot_len kind p
  split
  · simp
  · exact d.command_len kind p

/-- what is answered to some bytes, wherever the power goes -/
def feedC : Nat → Dv → List UInt8 → List UInt8 × Dv
  | 0, d, l => ([], d.withIn l)
  | n + 1, d, l =>
    if d.off = true then ([], d.withIn [])
    else if fWait (skip l) = true then ([], d.withIn (skip l))
    else if fBad (skip l) = true then
      (told 1 [] ++ (feedC n (d.withIn ((skip l).drop 1)) ((skip l).drop 1)).1, (feedC n (d.withIn ((skip l).drop 1)) ((skip l).drop 1)).2)
    else
      let c := (d.withIn ((skip l).drop (fLen (skip l) + 4))).commandC ((bytesI (skip l)).getD 2 0) (str (((skip l).drop 3).take (fLen (skip l))))
      ((if c.1.off = true then [] else told c.2.1 c.2.2) ++ (feedC n c.1 ((skip l).drop (fLen (skip l) + 4))).1, (feedC n c.1 ((skip l).drop (fLen (skip l) + 4))).2)
theorem feedC_off {n : Nat} {d : Dv} {l : List UInt8} (ho : d.off = true) : feedC (n + 1) d l = ([], d.withIn []) := by
  unfold feedC
  rw [if_pos ho]
theorem feedC_wait {n : Nat} {d : Dv} {l s : List UInt8} (ho : d.off = false) (hs : skip l = s) (h : s.length < 2 ∨ (fLen s ≤ 48 ∧ s.length < fLen s + 4)) : feedC (n + 1) d l = ([], d.withIn s) := by
  unfold feedC
  rw [if_neg (by simp [ho]), hs, if_pos (by simpa [fWait] using h)]
theorem feedC_bad {n : Nat} {d : Dv} {l s : List UInt8} (ho : d.off = false) (hs : skip l = s) (h : ¬ (s.length < 2 ∨ (fLen s ≤ 48 ∧ s.length < fLen s + 4))) (hb : 48 < fLen s ∨ ¬ (1 + sumB ((s.drop 1).take (fLen s + 2))) % 256 = (bytesI s).getD (fLen s + 3) 0) :
    feedC (n + 1) d l = (told 1 [] ++ (feedC n (d.withIn (s.drop 1)) (s.drop 1)).1, (feedC n (d.withIn (s.drop 1)) (s.drop 1)).2) := by
  rw [feedC, if_neg (by simp [ho]), hs, if_neg (by simpa only [fWait, decide_eq_true_eq] using h), if_pos (by simpa only [fBad, decide_eq_true_eq] using hb)]
theorem feedC_cmd {n : Nat} {d : Dv} {l s : List UInt8} {c : Dv × Int × List UInt8} (ho : d.off = false) (hs : skip l = s) (h : ¬ (s.length < 2 ∨ (fLen s ≤ 48 ∧ s.length < fLen s + 4))) (hb : ¬ (48 < fLen s ∨ ¬ (1 + sumB ((s.drop 1).take (fLen s + 2))) % 256 = (bytesI s).getD (fLen s + 3) 0))
    (hc : c = (d.withIn (s.drop (fLen s + 4))).commandC ((bytesI s).getD 2 0) (str ((s.drop 3).take (fLen s)))) :
    feedC (n + 1) d l = ((if c.1.off = true then [] else told c.2.1 c.2.2) ++ (feedC n c.1 (s.drop (fLen s + 4))).1, (feedC n c.1 (s.drop (fLen s + 4))).2) := by
  rw [feedC, if_neg (by simp [ho]), hs, if_neg (by simpa only [fWait, decide_eq_true_eq] using h), if_neg (by simpa only [fBad, decide_eq_true_eq] using hb), hc]
theorem withIn_sound {d : Dv} (h : d.sound) (l : List UInt8) : (d.withIn l).sound := h.withIn l

/-- between two frames -/
structure FeedCt (w : World) (g sm0 : Nat) (fin : List UInt8 × Dv) (n : Nat) (d : Dv) (out : ByteArray) (wr : World) : Prop where
  at_ : DvAt wr g d
  ok : d.sound
  sm : d.sm = sm0
  summ : Summ wr sm0
  len : d.inn.size < n
  fin : fin = (out.data.toList ++ (feedC n d d.inn.data.toList).1, (feedC n d d.inn.data.toList).2)
  room : out.size + 36 * d.inn.size ≤ 80000000
  grown : w.grownBy wr (some g)
theorem FeedCt.wait {w : World} {g sm0 : Nat} {fin : List UInt8 × Dv} {n : Nat} {e : Dv} {out : ByteArray} {wr : World} (A : FeedCt w g sm0 fin n e out wr) {s : List UInt8} (ho : e.off = false) (hs : skip e.inn.data.toList = s) (h : s.length < 2 ∨ (fLen s ≤ 48 ∧ s.length < fLen s + 4)) :
    fin = (out.data.toList, e.withIn s) := by
  obtain ⟨m, rfl⟩ : ∃ m, n = m + 1 := ⟨n - 1, by have := A.len; omega⟩
  rw [A.fin, feedC_wait ho hs h]; simp
theorem FeedCt.bad {w : World} {g sm0 : Nat} {fin : List UInt8 × Dv} {n : Nat} {e : Dv} {out : ByteArray} {wr w2 : World} (A : FeedCt w g sm0 fin n e out wr) {s : List UInt8} (ho : e.off = false) (hs : skip e.inn.data.toList = s)
    (h : ¬ (s.length < 2 ∨ (fLen s ≤ 48 ∧ s.length < fLen s + 4))) (hb : 48 < fLen s ∨ ¬ (1 + sumB ((s.drop 1).take (fLen s + 2))) % 256 = (bytesI s).getD (fLen s + 3) 0)
    (b : ByteArray) (hbl : b.data.toList = s.drop 1) (hd : DvAt w2 g (e.withIn b.data.toList)) (hg : wr.grownBy w2 (some g)) (hS : Summ w2 sm0) : FeedCt w g sm0 fin (n - 1) (e.withIn b.data.toList) (out ++ str (told 1 [])) w2 := by
  obtain ⟨m, rfl⟩ : ∃ m, n = m + 1 := ⟨n - 1, by have := A.len; omega⟩
  have e1 : (e.withIn b.data.toList).inn = b := list_str b
  have hsz : b.size = s.length - 1 := by rw [size_data, hbl, List.length_drop]
  have hsl : s.length ≤ e.inn.size := by rw [← hs, size_data]; exact skip_length _
  have hl := A.len
  have hr := A.room
  refine ⟨hd, withIn_sound A.ok _, A.sm, hS, by rw [e1]; omega, ?_, ?_, A.grown.trans hg⟩
  · rw [A.fin, feedC_bad ho hs h hb, e1, str_app, hbl, List.append_assoc]; rfl
  · rw [app_size, told_length, e1]; simp only [List.length_nil]; omega
theorem FeedCt.cmd {w : World} {g sm0 : Nat} {fin : List UInt8 × Dv} {n : Nat} {e : Dv} {out : ByteArray} {wr w2 : World} (A : FeedCt w g sm0 fin n e out wr) {s : List UInt8} {c : Dv × Int × List UInt8} (ho : e.off = false) (hs : skip e.inn.data.toList = s)
    (h : ¬ (s.length < 2 ∨ (fLen s ≤ 48 ∧ s.length < fLen s + 4))) (hb : ¬ (48 < fLen s ∨ ¬ (1 + sumB ((s.drop 1).take (fLen s + 2))) % 256 = (bytesI s).getD (fLen s + 3) 0))
    (hc : c = (e.withIn (s.drop (fLen s + 4))).commandC ((bytesI s).getD 2 0) (str ((s.drop 3).take (fLen s)))) (hd : DvAt w2 g c.1) (hg : wr.grownBy w2 (some g)) (hS : Summ w2 sm0) (hco : c.1.off = false) : FeedCt w g sm0 fin (n - 1) c.1 (out ++ str (told c.2.1 c.2.2)) w2 := by
  obtain ⟨m, rfl⟩ : ∃ m, n = m + 1 := ⟨n - 1, by have := A.len; omega⟩
  have hk := Dv.commandC_sound (withIn_sound A.ok (s.drop (fLen s + 4))) ((bytesI s).getD 2 0) (str ((s.drop 3).take (fLen s)))
  have hl := (Dv.commandC_len (e.withIn (s.drop (fLen s + 4))) ((bytesI s).getD 2 0) (str ((s.drop 3).take (fLen s)))).1
  rw [← hc] at hk hl
  have e1 : c.1.inn = str (s.drop (fLen s + 4)) := hk.2.inn
  have e2 : c.1.sm = e.sm := hk.2.sm
  have hsz : c.1.inn.size = s.length - (fLen s + 4) := by rw [e1, str_size, List.length_drop]
  have hsl : s.length ≤ e.inn.size := by rw [← hs, size_data]; exact skip_length _
  have hl2 := A.len
  have hr := A.room
  refine ⟨hd, hk.1, e2.trans A.sm, hS, by omega, ?_, ?_, A.grown.trans hg⟩
  · rw [A.fin, feedC_cmd ho hs h hb hc, e1, str_app, str_list, List.append_assoc, if_neg (by simp [hco])]; rfl
  · rw [app_size, told_length]; omega
theorem FeedCt.cmdOff {w : World} {g sm0 : Nat} {fin : List UInt8 × Dv} {n : Nat} {e : Dv} {out : ByteArray} {wr w2 : World} (A : FeedCt w g sm0 fin n e out wr) {s : List UInt8} {c : Dv × Int × List UInt8} (ho : e.off = false) (hs : skip e.inn.data.toList = s)
    (h : ¬ (s.length < 2 ∨ (fLen s ≤ 48 ∧ s.length < fLen s + 4))) (hb : ¬ (48 < fLen s ∨ ¬ (1 + sumB ((s.drop 1).take (fLen s + 2))) % 256 = (bytesI s).getD (fLen s + 3) 0))
    (hc : c = (e.withIn (s.drop (fLen s + 4))).commandC ((bytesI s).getD 2 0) (str ((s.drop 3).take (fLen s)))) (hd : DvAt w2 g c.1) (hg : wr.grownBy w2 (some g)) (hS : Summ w2 sm0) (hco : c.1.off = true) : FeedCt w g sm0 fin (n - 1) c.1 out w2 := by
  obtain ⟨m, rfl⟩ : ∃ m, n = m + 1 := ⟨n - 1, by have := A.len; omega⟩
  have hk := Dv.commandC_sound (withIn_sound A.ok (s.drop (fLen s + 4))) ((bytesI s).getD 2 0) (str ((s.drop 3).take (fLen s)))
  have hl := (Dv.commandC_len (e.withIn (s.drop (fLen s + 4))) ((bytesI s).getD 2 0) (str ((s.drop 3).take (fLen s)))).1
  rw [← hc] at hk hl
  have e1 : c.1.inn = str (s.drop (fLen s + 4)) := hk.2.inn
  have e2 : c.1.sm = e.sm := hk.2.sm
  have hsz : c.1.inn.size = s.length - (fLen s + 4) := by rw [e1, str_size, List.length_drop]
  have hsl : s.length ≤ e.inn.size := by rw [← hs, size_data]; exact skip_length _
  have hl2 := A.len
  have hr := A.room
  refine ⟨hd, hk.1, e2.trans A.sm, hS, by omega, ?_, ?_, A.grown.trans hg⟩
  · rw [A.fin, feedC_cmd ho hs h hb hc, e1, str_list, if_pos hco, List.nil_append]; rfl
  · omega
theorem FeedCt.gone {w : World} {g sm0 : Nat} {fin : List UInt8 × Dv} {n : Nat} {e : Dv} {out : ByteArray} {wr : World} (A : FeedCt w g sm0 fin n e out wr) (ho : e.off = true) : fin = (out.data.toList, e.withIn []) := by
  obtain ⟨m, rfl⟩ : ∃ m, n = m + 1 := ⟨n - 1, by have := A.len; omega⟩
  rw [A.fin, feedC_off ho]; simp

set_option maxRecDepth 100000 in
set_option maxHeartbeats 4000000 in
theorem ref_FeedC (hsum : SumSaid sumSpecRef) (w : World) (g : Nat) (d : Dv) (s : ByteArray) (h : DvAt w g d) (ok : d.sound) (hne : ∀ w', w.grownBy w' (some g) → Summ w' d.sm) (hs : d.inn.size + s.size < 2000000) :
    Calls Tryz.prog 29 #[.pointer (some ⟨g, 0, none⟩), .string s] w fun r w' => r = .returned (.string (str (feedC ((d.inn ++ s).size + 1) (d.withIn (d.inn ++ s).data.toList) (d.inn ++ s).data.toList).1)) ∧ DvAt w' g (feedC ((d.inn ++ s).size + 1) (d.withIn (d.inn ++ s).data.toList) (d.inn ++ s).data.toList).2 ∧ w.grownBy w' (some g) := by
  obtain ⟨fin, HF⟩ : ∃ fin, Hid (fin = feedC ((d.inn ++ s).size + 1) (d.withIn (d.inn ++ s).data.toList) (d.inn ++ s).data.toList) := ⟨_, rfl⟩
  rw [← HF.out]
  obtain ⟨cur, HC⟩ : ∃ cur, Hid (cur = d.inn ++ s) := ⟨_, rfl⟩
  have hcs : cur.size < 2000000 := by rw [HC.out, ByteArray.size_append]; exact hs
  rw [← HC.out] at HF
  obtain ⟨c0, c1, c2, c3, c4, c5, c6, c7, c8, c9, c10, c11, c12, c13, c14⟩ := h.c
  have f14 := h.frozen 14
  have hs9 : d.inn.size + s.size ≤ 9223372036854775807 := by omega
  go_enter Tryz.func29, Tryz.ntmps29
  go_wp2
  rw [← HC.out]
  go_loopw [5] (fun ov wr => ∃ (n : Nat) (e : Dv) (out : ByteArray), ov = .string out ∧ FeedCt w g d.sm fin n e out wr) (fun _ wr => inLen g wr)
  case atStart =>
    refine ⟨cur.size + 1, d.withIn cur.data.toList, ⟨#[]⟩, rfl, ?_⟩
    have e : (d.withIn cur.data.toList).inn = cur := list_str cur
    refine ⟨?_, withIn_sound ok _, rfl, hne _ (grown_set (World.grownBy.refl _ _) 14 _), by rw [e]; omega, by rw [e, HF.out]; simp, by rw [e]; show 0 + _ ≤ _; omega, grown_set (World.grownBy.refl _ _) 14 _⟩
    have := Row.setCell h 14 (.string cur)
    unfold DvAt Dv.cells
    rw [e]
    exact this
  case round =>
    obtain ⟨n, e, out, rfl, A⟩ := hrel
    clear c0 c1 c2 c3 c4 c5 c6 c7 c8 c9 c10 c11 c12 c13 c14 f14 hs9 hcs HC HF
    obtain ⟨-, -, -, -, -, -, -, -, -, -, -, -, c12, -, c14⟩ := A.at_.c
    by_cases hof : e.off = true
    · rw [hof] at c12
      have f14 := A.at_.frozen 14
      go_wp2
      go_ret
      have hw := A.gone hof
      refine ⟨ret_bytes (by rw [hw]; exact (list_str out).symm), ?_, A.grown.trans (grown_set (World.grownBy.refl _ _) 14 _)⟩
      rw [hw]
      exact DvAt.setIn A.at_ ⟨#[]⟩
    have hof' : e.off = false := by simpa using hof
    rw [hof'] at c12
    have HOF : Hid (e.off = false) := hof'
    clear hof hof'
    have f14 := A.at_.frozen 14
    have hlen := A.len
    have hroom := A.room
    have HFIN : Hid _ := A.fin
    obtain ⟨cur, hcur⟩ : ∃ cur, e.inn = cur := ⟨_, rfl⟩
    rw [hcur] at c14 hlen hroom HFIN
    have hcl : Hid (cur.size = cur.data.toList.length) := by show _ = _; rw [Array.length_toList]; rfl
    have hcs : cur.size < 3000000 := by omega
    go_wp2
    go_loopw [6] (fun c ws => ∃ j : Nat, j ≤ cur.size ∧ c = .int .i64 j ∧ (∀ i, i < j → (bytesI cur.data.toList).getD i 0 ≠ 165) ∧ ws = wr) (fun c _ => cur.size - (intOf c).toNat)
    case atStart => exact ⟨0, by omega, rfl, fun i hi => by omega, rfl⟩
    case round =>
      obtain ⟨j, hj, rfl, hno, hwr⟩ := hrel
      subst hwr
      have HNO : Hid _ := hno
      clear hno
      by_cases hlt : j < cur.size
      · have hby := byte_at hlt
        have hlt' : (j : Int) < cur.size := by omega
        obtain ⟨x, hx⟩ : ∃ x, (bytesI cur.data.toList).getD j 0 = x := ⟨_, rfl⟩
        rw [hx] at hby
        have HX : Hid _ := hx
        clear hx
        by_cases h165 : x = 165
        · subst h165
          obtain ⟨sB, HSB⟩ : ∃ sB, Hid (sB = cur.extract j cur.size) := ⟨_, rfl⟩
          have hsl : Hid (sB.data.toList = cur.data.toList.drop j) := by
            show _ = _
            rw [HSB.out, ext_list]
          have hsz : sB.size ≤ cur.size := by rw [HSB.out, ByteArray.size_extract]; omega
          have hsz1 : 1 ≤ sB.size := by rw [HSB.out, ByteArray.size_extract]; omega
          have HSK : Hid (skip cur.data.toList = sB.data.toList) := by
            show _ = _
            rw [hsl.out, skip_at cur.data.toList j (by rw [← hcl.out]; omega) HNO.out (.inr HX.out)]
          have HLN : Hid (sB.data.toList.length = sB.size) := by show _ = _; rw [Array.length_toList]; rfl
          have hjl : (j : Int) ≤ cur.size := by omega
          have hj0 : (0 : Int) ≤ j := by omega
          have hex : cur.extract j cur.size = sB := HSB.out.symm
          clear HSB hsl HNO HX hcl
          have hd1 : DvAt (wr.setCell ⟨g, 14, none⟩ (.string sB)) g (e.withIn sB.data.toList) := DvAt.setIn A.at_ sB
          by_cases h2 : sB.size < 2
          · have h2' : (sB.size : Int) < 2 := by omega
            go_wp2
            go_ret
            have hw := A.wait (s := sB.data.toList) HOF.out (by rw [hcur]; exact HSK.out) (.inl (by rw [HLN.out]; exact h2))
            refine ⟨ret_bytes (by rw [hw]; exact (list_str out).symm), ?_, A.grown.trans (grown_set (World.grownBy.refl _ _) 14 _)⟩
            rw [hw]
            exact hd1
          · have h2' : ¬ (sB.size : Int) < 2 := by omega
            have hby1 := byte_at (s := sB) (i := 1) (by omega)
            have hbd1 := getD_isB (bytesI_B sB.data.toList) 1
            have HFL : Hid (((fLen sB.data.toList : Nat) : Int) = (bytesI sB.data.toList).getD 1 0) := by show _ = _; unfold fLen; omega
            rw [← HFL.out] at hby1 hbd1
            obtain ⟨hn0, hn1⟩ := hbd1
            obtain ⟨fl, HFLN⟩ : ∃ fl, Hid (fl = fLen sB.data.toList) := ⟨_, rfl⟩
            rw [← HFLN.out] at hby1 hn0 hn1
            clear HFL
            by_cases h48 : 48 < fl
            · have h48' : (48 : Int) < fl := by omega
              have ht4 : (str (told 1 [])).size = 4 := by rw [str_size]; rfl
              have hs4 : out.size + 4 ≤ 9223372036854775807 := by omega
              have hs1 : (1 : Int) ≤ sB.size := by omega
              go_wp2_with (go_at_call 56; refine (ref_told 1 ⟨#[]⟩ _ (by omega) (by omega) (by decide)).mono ?_; rintro _ w2 ⟨rfl, hb2⟩; have hd2 : DvAt w2 g _ := hd1.below hb2 hd1.lt; have hg2 : wr.grownBy w2 (some g) := grown_below (grown_set (World.grownBy.refl _ _) 14 _) hb2; clear c14 f14; obtain ⟨-, -, -, -, -, -, -, -, -, -, -, -, -, -, c14⟩ := hd2.c; rw [show (e.withIn sB.data.toList).inn = sB from list_str sB] at c14; have f14 := hd2.frozen 14)
              refine ⟨⟨n - 1, _, _, rfl, A.bad (s := sB.data.toList) HOF.out (by rw [hcur]; exact HSK.out) (by rw [← HFLN.out, HLN.out]; omega) (.inl (by rw [← HFLN.out]; exact h48)) (sB.extract 1 sB.size) (ext_list sB 1) (DvAt.setIn hd2 _) (grown_set hg2 14 _) (hne _ ((A.grown.trans hg2).trans (grown_set (World.grownBy.refl _ _) 14 _)))⟩, ?_⟩
              exact FeedAt.less (DvAt.setIn hd2 (sB.extract 1 sB.size)) A.at_ (by rw [show ∀ l, (Dv.withIn (e.withIn sB.data.toList) l).inn = str l from fun _ => rfl, list_str, ByteArray.size_extract, hcur]; omega)
            · have h48' : ¬ (48 : Int) < fl := by omega
              by_cases hfw : sB.size < fl + 4
              · have hfw' : (sB.size : Int) < (fl : Int) + 4 := by omega
                go_wp2
                go_ret
                have hw := A.wait (s := sB.data.toList) HOF.out (by rw [hcur]; exact HSK.out) (.inr ⟨by rw [← HFLN.out]; omega, by rw [← HFLN.out, HLN.out]; exact hfw⟩)
                refine ⟨ret_bytes (by rw [hw]; exact (list_str out).symm), ?_, A.grown.trans (grown_set (World.grownBy.refl _ _) 14 _)⟩
                rw [hw]
                exact hd1
              · have hfw' : ¬ (sB.size : Int) < (fl : Int) + 4 := by omega
                have HNW : Hid (¬ (sB.data.toList.length < 2 ∨ (fLen sB.data.toList ≤ 48 ∧ sB.data.toList.length < fLen sB.data.toList + 4))) := by show ¬ _; rw [← HFLN.out, HLN.out]; omega
                have hfl48 : fl ≤ 48 := by omega
                go_wp2
                go_loopw [8, 9] (fun sv c ws => ∃ i : Nat, 1 ≤ i ∧ i ≤ fl + 3 ∧ c = .int .i64 i ∧ sv = .int .i64 (1 + sumB ((sB.data.toList.drop 1).take (i - 1))) ∧ ws = wr.setCell ⟨g, 14, none⟩ (.string sB)) (fun _ c _ => fl + 3 - (intOf c).toNat)
                case atStart => exact ⟨1, by omega, by omega, rfl, by simp [sumB], rfl⟩
                case round =>
                  obtain ⟨i, hi1, hi3, rfl, rfl, rfl⟩ := hrel
                  have hS0 := sumB_nonneg ((sB.data.toList.drop 1).take (i - 1))
                  have hS1 := sumB_le ((sB.data.toList.drop 1).take (i - 1))
                  have hln : ((sB.data.toList.drop 1).take (i - 1)).length ≤ 60 := by rw [List.length_take]; omega
                  by_cases hlt3 : i < fl + 3
                  · have hby2 := byte_at (s := sB) (i := i) (by omega)
                    obtain ⟨hb0, hb1⟩ := getD_isB (bytesI_B sB.data.toList) i
                    have HS : Hid (sumB ((sB.data.toList.drop 1).take (i + 1 - 1)) = sumB ((sB.data.toList.drop 1).take (i - 1)) + (bytesI sB.data.toList).getD i 0) := by
                      show _ = _
                      obtain ⟨k, rfl⟩ : ∃ k, i = k + 1 := ⟨i - 1, by omega⟩
                      rw [show k + 1 + 1 - 1 = k + 1 by omega, show k + 1 - 1 = k by omega, sumB_take_succ (sB.data.toList.drop 1) k (by rw [List.length_drop, HLN.out]; omega)]
                      congr 1
                      simp [bytesI, List.getD]
                    generalize (bytesI sB.data.toList).getD i 0 = y at *
                    generalize sumB ((sB.data.toList.drop 1).take (i - 1)) = sm at *
                    have hi' : (i : Int) < (fl : Int) + 3 := by omega
                    have hi'' : (i : Int) < sB.size := by omega
                    go_wp2
                    refine ⟨⟨i + 1, by omega, by omega, by go_num, ?_, trivial⟩, by simp [intOf]; omega⟩
                    rw [HS.out, Int.add_assoc]
                  · have hie : i = fl + 3 := by omega
                    subst hie
                    have hby3 := byte_at (s := sB) (i := fl + 3) (by omega)
                    obtain ⟨hb0, hb1⟩ := getD_isB (bytesI_B sB.data.toList) (fl + 3)
                    rw [show fl + 3 - 1 = fl + 2 by omega] at *
                    obtain ⟨y, HY⟩ : ∃ y, Hid (y = (bytesI sB.data.toList).getD (fl + 3) 0) := ⟨_, rfl⟩
                    rw [← HY.out] at hby3 hb0 hb1
                    obtain ⟨sm, HSM⟩ : ∃ sm, Hid (sm = sumB ((sB.data.toList.drop 1).take (fl + 2))) := ⟨_, rfl⟩
                    rw [← HSM.out] at hS0 hS1
                    rw [← HSM.out]
                    have hm : (1 + sm).tmod 256 = (1 + sm) % 256 := Int.tmod_eq_emod_of_nonneg (by omega)
                    have hi' : ¬ ((fl + 3 : Nat) : Int) < (fl : Int) + 3 := by omega
                    have hi4 : (fl : Int) + 3 < sB.size := by omega
                    have hn3 : ((fl : Int) + 3).toNat = fl + 3 := by omega
                    by_cases hbad : (1 + sm) % 256 = y
                    · have hby2 := byte_at (s := sB) (i := 2) (by omega)
                      obtain ⟨kd, HKD⟩ : ∃ kd, Hid (kd = (bytesI sB.data.toList).getD 2 0) := ⟨_, rfl⟩
                      have hkb := getD_isB (bytesI_B sB.data.toList) 2
                      rw [← HKD.out] at hby2 hkb
                      obtain ⟨hk0, hk1⟩ := hkb
                      obtain ⟨rB, HRB⟩ : ∃ rB, Hid (rB = sB.extract (fl + 4) sB.size) := ⟨_, rfl⟩
                      obtain ⟨pB, HPB⟩ : ∃ pB, Hid (pB = sB.extract 3 (fl + 3)) := ⟨_, rfl⟩
                      have hpl : Hid (str ((sB.data.toList.drop 3).take fl) = pB) := by
                        show _ = _
                        rw [← list_str pB, HPB.out, ext_list2, show fl + 3 - 3 = fl by omega]
                      have hrl : Hid (rB.data.toList = sB.data.toList.drop (fl + 4)) := by show _ = _; rw [HRB.out, ext_list]
                      have hps : pB.size ≤ 60 := by rw [HPB.out, ByteArray.size_extract]; omega
                      have hrs : rB.size < sB.size := by rw [HRB.out, ByteArray.size_extract]; omega
                      have ex1 : sB.extract 3 (fl + 3) = pB := HPB.out.symm
                      have ex2 : sB.extract (fl + 4) sB.size = rB := HRB.out.symm
                      clear HRB HPB
                      have hn4 : ((fl : Int) + 4).toNat = fl + 4 := by omega
                      have hi5 : (fl : Int) + 4 ≤ sB.size := by omega
                      have hi6 : (fl : Int) + 3 ≤ sB.size := by omega
                      have hi7 : (2 : Int) < sB.size := by omega
                      have hi8 : (3 : Int) ≤ (fl : Int) + 3 := by omega
                      have hdr : DvAt ((wr.setCell ⟨g, 14, none⟩ (.string sB)).setCell ⟨g, 14, none⟩ (.string rB)) g (e.withIn rB.data.toList) := DvAt.setIn hd1 rB
                      have hgr : wr.grownBy ((wr.setCell ⟨g, 14, none⟩ (.string sB)).setCell ⟨g, 14, none⟩ (.string rB)) (some g) := grown_set (grown_set (World.grownBy.refl _ _) 14 _) 14 _
                      obtain ⟨c, HCC⟩ : ∃ c, Hid (c = (e.withIn rB.data.toList).commandC kd pB) := ⟨_, rfl⟩
                      have hcok := Dv.commandC_sound (withIn_sound A.ok rB.data.toList) kd pB
                      have hcl := Dv.commandC_len (e.withIn rB.data.toList) kd pB
                      rw [← HCC.out] at hcok hcl
                      obtain ⟨hl32, hst0, hst1⟩ := hcl
                      obtain ⟨tB, HTB⟩ : ∃ tB, Hid (tB = str (told c.2.1 c.2.2)) := ⟨_, rfl⟩
                      have htb : tB.size ≤ 36 := by rw [HTB.out, str_size, told_length]; omega
                      have hs4 : out.size + tB.size ≤ 9223372036854775807 := by omega
                      have hws : Summ ((wr.setCell ⟨g, 14, none⟩ (.string sB)).setCell ⟨g, 14, none⟩ (.string rB)) (e.withIn rB.data.toList).sm := by rw [show (e.withIn rB.data.toList).sm = d.sm from A.sm]; exact hne _ (A.grown.trans hgr)
                      by_cases hco' : c.1.off = true
                      · have hco : Hid (c.1.off = true) := hco'
                        clear hco'
                        go_wp2_with (first | (go_at_call 57; refine (ref_commandC hsum _ g (e.withIn rB.data.toList) kd pB hdr (withIn_sound A.ok _) hws (by omega)).mono ?_; rintro _ w3 ⟨rfl, hd3, hg3⟩; rw [← HCC.out] at hd3; rw [← HCC.out]; clear c14 f14 c12; obtain ⟨-, -, -, -, -, -, -, -, -, -, -, -, c12, -, -⟩ := hd3.c; rw [hco.out] at c12))
                        have hg4 : wr.grownBy w3 (some g) := hgr.trans hg3
                        refine ⟨⟨n - 1, c.1, _, rfl, ?_⟩, ?_⟩
                        · exact A.cmdOff (s := sB.data.toList) HOF.out (by rw [hcur]; exact HSK.out) HNW.out (by rw [← HFLN.out, ← HSM.out, ← HY.out]; omega) (by rw [HCC.out, ← HFLN.out, ← hrl.out, ← HKD.out, hpl.out]) hd3 hg4 (hne _ (A.grown.trans hg4)) hco.out
                        · exact FeedAt.less hd3 A.at_ (by rw [hcok.2.inn, show (e.withIn rB.data.toList).inn = rB from list_str rB, hcur]; omega)
                      · have hco : Hid (c.1.off = false) := by show _ = _; simpa using hco'
                        clear hco'
                        go_wp2_with (first | (go_at_call 57; refine (ref_commandC hsum _ g (e.withIn rB.data.toList) kd pB hdr (withIn_sound A.ok _) hws (by omega)).mono ?_; rintro _ w3 ⟨rfl, hd3, hg3⟩; rw [← HCC.out] at hd3; rw [← HCC.out]; clear c14 f14 c12; obtain ⟨-, -, -, -, -, -, -, -, -, -, -, -, c12, -, -⟩ := hd3.c; rw [hco.out] at c12) | (go_at_call 56; refine (ref_told c.2.1 (str c.2.2) _ hst0 hst1 (by rw [str_size]; omega)).mono ?_; rintro _ w4 ⟨rfl, hb4⟩; rw [str_list, ← HTB.out]; have hd4 : DvAt w4 g c.1 := hd3.below hb4 hd3.lt; have hg4 : wr.grownBy w4 (some g) := grown_below (hgr.trans hg3) hb4))
                        refine ⟨⟨n - 1, c.1, _, rfl, ?_⟩, ?_⟩
                        · rw [HTB.out]
                          exact A.cmd (s := sB.data.toList) HOF.out (by rw [hcur]; exact HSK.out) HNW.out (by rw [← HFLN.out, ← HSM.out, ← HY.out]; omega) (by rw [HCC.out, ← HFLN.out, ← hrl.out, ← HKD.out, hpl.out]) hd4 hg4 (hne _ (A.grown.trans hg4)) hco.out
                        · exact FeedAt.less hd4 A.at_ (by rw [hcok.2.inn, show (e.withIn rB.data.toList).inn = rB from list_str rB, hcur]; omega)
                    · have ht4 : (str (told 1 [])).size = 4 := by rw [str_size]; rfl
                      have hs4 : out.size + 4 ≤ 9223372036854775807 := by omega
                      have hs1 : (1 : Int) ≤ sB.size := by omega
                      go_wp2_with (go_at_call 56; refine (ref_told 1 ⟨#[]⟩ _ (by omega) (by omega) (by decide)).mono ?_; rintro _ w2 ⟨rfl, hb2⟩; have hd2 : DvAt w2 g _ := hd1.below hb2 hd1.lt; have hg2 : wr.grownBy w2 (some g) := grown_below (grown_set (World.grownBy.refl _ _) 14 _) hb2; clear c14 f14; obtain ⟨-, -, -, -, -, -, -, -, -, -, -, -, -, -, c14⟩ := hd2.c; rw [show (e.withIn sB.data.toList).inn = sB from list_str sB] at c14; have f14 := hd2.frozen 14)
                      refine ⟨⟨n - 1, _, _, rfl, A.bad (s := sB.data.toList) HOF.out (by rw [hcur]; exact HSK.out) HNW.out (.inr (by rw [← HFLN.out, ← HSM.out, ← HY.out]; exact hbad)) (sB.extract 1 sB.size) (ext_list sB 1) (DvAt.setIn hd2 _) (grown_set hg2 14 _) (hne _ ((A.grown.trans hg2).trans (grown_set (World.grownBy.refl _ _) 14 _)))⟩, ?_⟩
                      exact FeedAt.less (DvAt.setIn hd2 (sB.extract 1 sB.size)) A.at_ (by rw [show ∀ l, (Dv.withIn (e.withIn sB.data.toList) l).inn = str l from fun _ => rfl, list_str, ByteArray.size_extract, hcur]; omega)
        · go_wp2
          refine ⟨⟨j + 1, by omega, by go_num, ?_, trivial⟩, by simp [intOf]; omega⟩
          intro i hi
          rcases Nat.lt_or_ge i j with h2 | h2
          · exact HNO.out i h2
          · rw [show i = j by omega, HX.out]; exact h165
      · have hje : j = cur.size := by omega
        have hlt' : ¬ (j : Int) < cur.size := by omega
        have HSK : Hid (skip cur.data.toList = []) := by
          show _ = _
          rw [skip_at cur.data.toList j (by rw [← hcl.out]; omega) HNO.out (.inl (by rw [← hcl.out]; exact hje)), hje, hcl.out, List.drop_length]
        have hz : (cur.extract j cur.size).size = 0 := by rw [ByteArray.size_extract]; omega
        have hz' : ((cur.extract j cur.size).size : Int) < 2 := by omega
        have hjl : (j : Int) ≤ cur.size := by omega
        have hj0 : (0 : Int) ≤ j := by omega
        go_wp2
        go_ret
        have hw := A.wait (s := []) HOF.out (by rw [hcur]; exact HSK.out) (.inl (by simp))
        refine ⟨ret_bytes (by rw [hw]; exact (list_str out).symm), ?_, A.grown.trans (grown_set (World.grownBy.refl _ _) 14 _)⟩
        rw [hw]
        exact DvAt.setIn A.at_ ByteArray.empty
end Go.Proofs.YtaokemapkgggoaaGreatDoor
