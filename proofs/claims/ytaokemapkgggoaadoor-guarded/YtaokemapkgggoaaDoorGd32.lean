import Derived.Test.YtaokemapkgggoaaDoorGd31
import Derived.Test.YtaokemapkgggoaaDoorGd30
import Derived.Test.YtaokemapkgggoaaDoorGd27
namespace Go.Proofs.YtaokemapkgggoaaDoor
open Go.RowKit

/-- a list of steps that came in -/
def StepsAt (w : World) (ao : Option Addr) (len : Nat) : Prop := ∀ i, i < len → ∃ b off k a n, ao = some ⟨b, off, none⟩ ∧ b < w.heap.size ∧ w.cell? ⟨b, off + i * 3, none⟩ = some (.int .i64 k) ∧ w.cell? ⟨b, off + i * 3 + 1, none⟩ = some (.int .i64 a) ∧ w.cell? ⟨b, off + i * 3 + 2, none⟩ = some (.int .i64 n) ∧
  -9223372036854775808 ≤ k ∧ k ≤ 9223372036854775807 ∧ -9223372036854775808 ≤ a ∧ a ≤ 9223372036854775807 ∧ -9223372036854775808 ≤ n ∧ n ≤ 9223372036854775807
/-- a list of numbers that came in -/
def IntsAt (w : World) (ao : Option Addr) (len : Nat) : Prop := ∀ i, i < len → ∃ b off z, ao = some ⟨b, off, none⟩ ∧ b < w.heap.size ∧ w.cell? ⟨b, off + i, none⟩ = some (.int .i64 z) ∧ -9223372036854775808 ≤ z ∧ z ≤ 9223372036854775807

set_option maxRecDepth 100000 in
set_option maxHeartbeats 1000000 in
theorem keep_opened (w0 w : World) (c : Int) (G : Glob w0) (hb : Below w0.heap.size w0 w) (hc0 : -9223372036854775808 ≤ c) (hc1 : c ≤ 9223372036854775807) :
    Calls Tryd.prog 15 #[.int .i64 c] w fun r w' => ∃ g, r = .returned (.pointer (some ⟨g, 0, none⟩)) ∧ w.heap.size ≤ g ∧ KdAt w0 w' g (Dv.fresh 0 (str (pinL c))) ∧ Below w.heap.size w w' := by
  have haw := keep_awake w (G.below hb (Nat.le_refl _))
  have hpin := fun W => keep_pin c W hc0 hc1
  obtain ⟨p1, p2⟩ := pinL_len c
  have hnew := fun (W : World) (h : Below w0.heap.size w0 W) => keep_New w0 W (str (pinL c)) h (by rw [str_size]; exact p1) (by rw [str_size]; exact p2)
  generalize str (pinL c) = pb at *
  generalize Dv.fresh 0 pb = D at *
  go_enter Tryd.func15, Tryd.ntmps15
  go_wp2_with (first | (go_at_call 10; refine haw.mono ?_; rintro _ w1 ⟨rfl, hb1⟩) | (go_at_call 17; refine (hpin _).mono ?_; rintro _ w2 ⟨rfl, hb2⟩; have d2 := hb1.trans (hb2.mono hb1.size); have d2' := hb.trans (d2.mono hb.size)) | (go_at_call 29; refine (hnew _ d2').mono ?_; rintro _ w3 ⟨g, rfl, hg, K, hb3⟩; have d3 := d2.trans (hb3.mono d2.size); have hg' := Nat.le_trans d2.size hg))
  go_ret
  exact ⟨g, rfl, hg', K, d3⟩

end Go.Proofs.YtaokemapkgggoaaDoor

namespace Go.Proofs.YtaokemapkgggoaaDoor
open Go.RowKit

/-- what command 7 tells -/
def tellL (d : Dv) : List UInt8 := [b8 (if d.unl then 1 else 0), b8 d.k.tries, b8 (d.k.bits 4)]
theorem fed_tell {d : Dv} (ho : d.off = false) (hi : d.inn = ⟨#[]⟩) : fed d (told 7 []) = (told 0 (tellL d), d) := by
  have e : d.commandC 7 (str []) = (d, 0, tellL d) := by
    rw [Dv.commandC_command (by omega) (by omega) (by omega)]
    unfold Dv.command
    rw [if_neg (by omega), if_neg (by omega), if_pos rfl, if_pos (by rw [str_size]; rfl)]
    rfl
  exact fed_on 7 [] (by omega) (by omega) (by simp) ho hi e ho hi

set_option maxRecDepth 100000 in
set_option maxHeartbeats 1000000 in
theorem keep_tells {w0 w : World} {g : Nat} {d : Dv} (G : Glob w0) (K : KdAt w0 w g d) (ho : d.off = false) (hi : d.inn = ⟨#[]⟩) :
    Calls Tryd.prog 23 #[.pointer (some ⟨g, 0, none⟩)] w fun r w' => r = .returned (.tuple #[.int .i64 (if d.unl then 1 else 0), .int .i64 d.k.tries, .int .i64 (d.k.bits 4), .bool true]) ∧ KdAt w0 w' g d ∧ w.grownBy w' (some g) := by
  have hfr : ∀ W : World, Calls Tryd.prog 16 #[.int .i64 7, .string ⟨#[]⟩] W fun r w' => r = .returned (.string (str (told 7 []))) ∧ Below W.heap.size W w' := fun W => keep_frame 7 ⟨#[]⟩ W (by decide) (by decide) (by decide)
  have hF : ∀ W, KdAt w0 W g d → Calls Tryd.prog 19 #[.pointer (some ⟨g, 0, none⟩), .string (str (told 7 []))] W fun r w' => r = .returned (.string (str (told 0 (tellL d)))) ∧ KdAt w0 w' g d ∧ W.grownBy w' (some g) := fun W K => keep_fed G K (fed_tell ho hi) (by rw [told_len]; decide) _ rfl
  have hA := fun W => keep_answered (told 0 (tellL d)) 0 (tellL d) W (by decide) (by decide) (by show (3 : Nat) < 100000; omega)
  have t0 := K.ok.t0
  have t1 := K.ok.t1
  obtain ⟨b0, b1⟩ := d.k.bits_bd 4 (Nat.le_refl _)
  have b1' : d.k.bits 4 < 16 := b1
  have E0 : ((b8 (if d.unl then 1 else 0)).toNat : Int) = if d.unl then 1 else 0 := by rw [b8_toNat]; split <;> rfl
  have E1 : ((b8 d.k.tries).toNat : Int) = d.k.tries := by rw [b8_toNat]; omega
  have E2 : ((b8 (d.k.bits 4)).toNat : Int) = d.k.bits 4 := by rw [b8_toNat]; omega
  rw [beq_self_eq_true] at hA
  have hT : told 0 (tellL d) = [165, 3, 0, b8 (if d.unl then 1 else 0), b8 d.k.tries, b8 (d.k.bits 4), b8 ((tellL d).length + 0 + 1 + sumB (tellL d))] := rfl
  have hu2 : (if d.unl then (1 : Int) else 0) < 2 := by split <;> omega
  unfold tellL at hA hT hF
  rw [hT] at hF hA
  generalize (if d.unl then (1 : Int) else 0) = u at *
  generalize d.k.tries = tr at *
  generalize d.k.bits 4 = bi at *
  generalize b8 u = x0 at *
  generalize b8 tr = x1 at *
  generalize b8 bi = x2 at *
  generalize b8 (([x0, x1, x2] : List UInt8).length + 0 + 1 + sumB [x0, x1, x2]) = x3 at *
  obtain ⟨sb, HSB⟩ : ∃ sb, Hid (sb = str [165, 3, 0, x0, x1, x2, x3]) := ⟨_, rfl⟩
  have hz : sb.size = 7 := by rw [HSB.out]; rfl
  have hzi : (sb.size : Int) = 7 := by omega
  have g3 := byte_at (s := sb) (i := 3) (by omega)
  have g4 := byte_at (s := sb) (i := 4) (by omega)
  have g5 := byte_at (s := sb) (i := 5) (by omega)
  rw [show (bytesI sb.data.toList).getD 3 0 = u by rw [HSB.out]; exact E0] at g3
  rw [show (bytesI sb.data.toList).getD 4 0 = tr by rw [HSB.out]; exact E1] at g4
  rw [show (bytesI sb.data.toList).getD 5 0 = bi by rw [HSB.out]; exact E2] at g5
  have hex : sb.extract 3 6 = str [x0, x1, x2] := by rw [HSB.out]; rfl
  rw [← HSB.out] at hF hA
  have l3 : (3 : Int) < sb.size := by omega
  have l4 : (4 : Int) < sb.size := by omega
  have l5 : (5 : Int) < sb.size := by omega
  have l6 : (6 : Int) ≤ sb.size := by omega
  have HF : Hid _ := hF
  have HA : Hid _ := hA
  have HFR : Hid _ := hfr
  clear hF hA hfr hT E0 E1 E2
  generalize str [x0, x1, x2] = pb at *
  go_enter Tryd.func23, Tryd.ntmps23
  go_wp2_with (first | (go_at_call 16; refine (HFR.out _).mono ?_; rintro _ w1 ⟨rfl, hb1⟩; have K1 := K.next hb1) | (go_at_call 19; refine (HF.out _ K1).mono ?_; rintro _ w2 ⟨rfl, K2, hg2⟩; have hw2 := (grown_of_below (some g) hb1).trans hg2) | (go_at_call 30; refine (HA.out _).mono ?_; rintro _ w3 ⟨rfl, hb3⟩; have K3 := K2.next hb3; have hw3 := hw2.trans (grown_of_below (some g) hb3)))
  refine bodyPost_ret (v := .tuple #[.int .i64 u, .int .i64 tr, .int .i64 bi, .bool true]) (by simp [results, Tryd.results23, go_sem]) rfl ⟨rfl, K3, hw3⟩
end Go.Proofs.YtaokemapkgggoaaDoor

namespace Go.Proofs.YtaokemapkgggoaaDoor
open Go.RowKit

/-- one try of a PIN, wherever the power goes: a try less is kept ahead of the look at the PIN -/
theorem unlock_guard (d : Dv) (p : ByteArray) (ho : d.off = false) (h1 : ¬ (p.size < 1 ∨ 8 < p.size)) (hn : d.k.num + 2 < 4294967295) (hn0 : 0 ≤ d.k.num) :
    (d.unlockC p).1.k.pin = d.k.pin ∧ (d.unlockC p).1.k.num ≤ d.k.num + 2 ∧ d.k.num ≤ (d.unlockC p).1.k.num ∧
    (d.k.tries = 0 → d.unlockC p = (d, 5, [])) ∧
    (¬ d.k.tries = 0 →
      ((d.unlockC p).1.off = true ∧ 0 ≤ d.cut ∧ (d.unlockC p).1.unl = false ∧ ((d.unlockC p).1.k.tries = d.k.tries ∨ (d.unlockC p).1.k.tries = d.k.tries - 1)) ∨
      ((d.unlockC p).1.off = false ∧ p = d.k.pin ∧ (d.unlockC p).2 = (0, []) ∧ (d.unlockC p).1.k.tries = 5 ∧ (d.unlockC p).1.unl = true) ∨
      ((d.unlockC p).1.off = false ∧ ¬ p = d.k.pin ∧ (d.unlockC p).2 = (3, [b8 (d.k.tries - 1)]) ∧ (d.unlockC p).1.k.tries = d.k.tries - 1 ∧ (d.unlockC p).1.unl = false)) := by
  unfold Dv.unlockC
  rw [if_neg h1]
  by_cases ht : d.k.tries = 0
  · rw [if_pos ht]
    exact ⟨rfl, by dsimp only; omega, Int.le_refl _, fun _ => rfl, fun x => absurd ht x⟩
  · rw [if_neg ht, if_neg (show ¬ 4294967295 ≤ d.k.num by omega)]
    by_cases hc : 0 ≤ d.cut ∧ d.cut < 101
    · rw [if_pos hc]
      exact ⟨rfl, by show d.k.num ≤ _; omega, Int.le_refl _, fun x => absurd x ht, fun _ => .inl ⟨rfl, hc.1, rfl, .inl rfl⟩⟩
    · rw [if_neg hc]
      by_cases hq : p = d.k.pin
      · rw [if_neg (fun x => x hq), if_neg (show ¬ 4294967295 ≤ d.k.num + 1 by omega)]
        by_cases hc2 : 0 ≤ (d.wrote d.k.less).cut ∧ (d.wrote d.k.less).cut < 101
        · rw [if_pos hc2]
          have hcut : 0 ≤ d.cut := by
            have h3 := hc2.1
            simp only [Dv.wrote] at h3
            split at h3 <;> omega
          exact ⟨rfl, by show d.k.num + 1 ≤ _; omega, by show d.k.num ≤ d.k.num + 1; omega, fun x => absurd x ht, fun _ => .inl ⟨rfl, hcut, rfl, .inr rfl⟩⟩
        · rw [if_neg hc2]
          exact ⟨rfl, by show d.k.num + 1 + 1 ≤ _; omega, by show d.k.num ≤ d.k.num + 1 + 1; omega, fun x => absurd x ht, fun _ => .inr (.inl ⟨ho, hq, rfl, rfl, rfl⟩)⟩
      · rw [if_pos hq]
        by_cases hz : d.k.tries - 1 = 0
        · rw [if_pos ⟨hz, show ¬ 4294967295 ≤ d.k.num + 1 by omega⟩]
          unfold Dv.put
          by_cases hc2 : 0 ≤ (d.wrote d.k.less).lock.cut ∧ (d.wrote d.k.less).lock.cut < 101
          · rw [if_pos hc2]
            have hcut : 0 ≤ d.cut := by
              have h3 := hc2.1
              simp only [Dv.wrote, Dv.lock] at h3
              split at h3 <;> omega
            exact ⟨rfl, by show d.k.num + 1 ≤ _; omega, by show d.k.num ≤ d.k.num + 1; omega, fun x => absurd x ht, fun _ => .inl ⟨rfl, hcut, rfl, .inr rfl⟩⟩
          · rw [if_neg hc2]
            exact ⟨rfl, by show d.k.num + 1 + 1 ≤ _; omega, by show d.k.num ≤ d.k.num + 1 + 1; omega, fun x => absurd x ht, fun _ => .inr (.inr ⟨ho, hq, rfl, rfl, rfl⟩)⟩
        · rw [if_neg (fun x => hz x.1)]
          exact ⟨rfl, by show d.k.num + 1 ≤ _; omega, by show d.k.num ≤ d.k.num + 1; omega, fun x => absurd x ht, fun _ => .inr (.inr ⟨ho, hq, rfl, rfl, rfl⟩)⟩
end Go.Proofs.YtaokemapkgggoaaDoor

namespace Go.Proofs.YtaokemapkgggoaaDoor
open Go.RowKit

/-- a device between two tries -/
structure GuardAt (p : List UInt8) (left : Int) (m : Int) (d : Dv) : Prop where
  off : d.off = false
  inn : d.inn = ⟨#[]⟩
  cut : d.cut < 0
  pin : d.k.pin = str p
  tries : d.k.tries = left
  lock : left = 0 → d.unl = false
  num : d.k.num ≤ m
theorem unlockC_cut {d : Dv} (h : d.cut < 0) (p : ByteArray) : (d.unlockC p).1.cut < 0 := by
  have hw : ∀ (e : Dv) (k : Kep), e.cut < 0 → (e.wrote k).cut < 0 := fun e k he => by simp only [Dv.wrote]; rw [if_pos he]; exact he
  have hn : ∀ (e : Dv), e.cut < 0 → ¬ (0 ≤ e.cut ∧ e.cut < 101) := fun e he => by omega
  unfold Dv.unlockC
  split
  · exact h
  split
  · exact h
  split
  · exact h
  rw [if_neg (hn d h)]
  split
  · dsimp only
    split
    · unfold Dv.put
      have hl : (d.wrote d.k.less).lock.cut < 0 := hw d d.k.less h
      rw [if_neg (hn _ hl)]
      exact hw _ d.k.less.bare hl
    · exact hw d d.k.less h
  split
  · exact hw d d.k.less h
  rw [if_neg (hn _ (hw d d.k.less h))]
  exact hw (d.wrote d.k.less) d.k.less.full (hw d d.k.less h)
theorem unlockC_inn (d : Dv) (p : ByteArray) (h : d.inn = ⟨#[]⟩) : (d.unlockC p).1.inn = ⟨#[]⟩ := by
  have := Dv.unlockC_withIn d [] p
  rw [withIn_self h] at this
  rw [this]
  rfl
/-- what a try leaves, behind a boot where there was a cut -/
def after (cut : Bool) (d : Dv) : Dv := if cut then d.booted else d
/-- one try, wherever the power goes -/
theorem guard_round {p q : List UInt8} {left m : Int} {d D0 : Dv} {cut : Bool} {n : Nat} (A : GuardAt p left m d) (hD : D0 = if cut then { d with cut := n } else d) (hq1 : 1 ≤ q.length) (hq2 : q.length ≤ 8) (hs : d.sound) (hm : m + 2 < 4294967295) :
    ∃ left', GuardAt p left' (m + 2) (after cut (fed D0 (told 1 q)).2) ∧ 0 ≤ left' ∧ left' ≤ 5 ∧
    (((fed D0 (told 1 q)).1 = [] ∧ cut = true ∧ (after cut (fed D0 (told 1 q)).2).unl = false ∧ (left' = left ∨ left' = left - 1)) ∨
     (left = 0 ∧ (fed D0 (told 1 q)).1 = told 5 [] ∧ left' = 0 ∧ (after cut (fed D0 (told 1 q)).2).unl = false) ∨
     (¬ left = 0 ∧ q = p ∧ (fed D0 (told 1 q)).1 = told 0 [] ∧ left' = 5) ∨
     (¬ left = 0 ∧ ¬ q = p ∧ (fed D0 (told 1 q)).1 = told 3 [b8 (left - 1)] ∧ left' = left - 1 ∧ (after cut (fed D0 (told 1 q)).2).unl = false)) := by
  have hk : D0.k = d.k := by rw [hD]; split <;> rfl
  have ho : D0.off = false := by rw [hD]; split <;> exact A.off
  have hi : D0.inn = ⟨#[]⟩ := by rw [hD]; split <;> exact A.inn
  have hu : D0.unl = d.unl := by rw [hD]; split <;> rfl
  have t0 := hs.t0
  have t1 := hs.t1
  have n0 := hs.n0
  have ht := A.tries
  have hnm := A.num
  have hG := unlock_guard D0 (str q) ho (by rw [str_size]; omega) (by rw [hk]; omega) (by rw [hk]; omega)
  rw [hk] at hG
  obtain ⟨g1, g2, g3, g4, g5⟩ := hG
  have e0 : D0.commandC 1 (str q) = D0.unlockC (str q) := by unfold Dv.commandC; rw [if_pos rfl]
  have hf := fed_cmd 1 q (by omega) (by omega) (by omega) ho hi e0
  have hci : ((D0.unlockC (str q)).1).inn = ⟨#[]⟩ := unlockC_inn D0 _ hi
  have hcc : cut = false → ((D0.unlockC (str q)).1).cut < 0 := by
    intro hc
    rw [hc] at hD
    rw [hD]
    exact unlockC_cut A.cut _
  have hcut0 : 0 ≤ D0.cut → cut = true := by
    intro h
    cases cut with
    | true => rfl
    | false =>
      rw [hD] at h
      exact absurd A.cut (by
        have h' : 0 ≤ d.cut := h
        omega)
  obtain ⟨c, hc⟩ : ∃ c, c = D0.unlockC (str q) := ⟨_, rfl⟩
  rw [← hc] at g1 g2 g3 g4 g5 hf hci hcc
  rw [hf]
  have hA : ∀ (x : Int) (hx : c.1.k.tries = x) (ho' : cut = false → c.1.off = false) (hl : x = 0 → (after cut (c.1.withIn [])).unl = false), GuardAt p x (m + 2) (after cut (c.1.withIn [])) := by
    intro x hx ho' hl
    cases cut with
    | true => exact ⟨rfl, rfl, by show (-1 : Int) < 0; omega, g1.trans A.pin, hx, hl, by show c.1.k.num ≤ _; omega⟩
    | false => exact ⟨ho' rfl, rfl, hcc rfl, g1.trans A.pin, hx, hl, by show c.1.k.num ≤ _; omega⟩
  have hun : c.1.unl = false → (after cut (c.1.withIn [])).unl = false := by
    intro h
    cases cut with
    | true => rfl
    | false => exact h
  by_cases hz : d.k.tries = 0
  · have h5 := g4 hz
    have hcu : c.1.unl = false := by rw [h5]; show D0.unl = false; rw [hu]; exact A.lock (by omega)
    refine ⟨0, hA 0 (by rw [h5]; show D0.k.tries = 0; rw [hk]; exact hz) (fun _ => by rw [h5]; exact ho) (fun _ => hun hcu), by omega, by omega, .inr (.inl ⟨by omega, ?_, rfl, hun hcu⟩)⟩
    dsimp only
    rw [h5]
    dsimp only
    rw [if_neg (by rw [ho]; decide)]
  · rcases g5 hz with ⟨a1, a2, a3, a4⟩ | ⟨a1, a2, a3, a4, a5⟩ | ⟨a1, a2, a3, a4, a5⟩
    · have hct := hcut0 a2
      refine ⟨c.1.k.tries, hA _ rfl (fun h => by rw [h] at hct; cases hct) (fun _ => hun a3), by omega, by omega, .inl ⟨?_, hct, hun a3, by omega⟩⟩
      dsimp only
      rw [if_pos a1]
    · refine ⟨5, hA 5 a4 (fun _ => a1) (fun h => absurd h (by omega)), by omega, by omega, .inr (.inr (.inl ⟨by omega, ?_, ?_, rfl⟩))⟩
      · rw [A.pin] at a2
        have := congrArg (fun b : ByteArray => b.data.toList) a2
        simpa only [str_list] using this
      · dsimp only
        rw [if_neg (by rw [a1]; decide), a3]
    · refine ⟨d.k.tries - 1, hA _ a4 (fun _ => a1) (fun _ => hun a5), by omega, by omega, .inr (.inr (.inr ⟨by omega, ?_, ?_, by omega, hun a5⟩))⟩
      · intro h
        apply a2
        rw [A.pin, h]
      · dsimp only
        rw [if_neg (by rw [a1]; decide), a3, ht]
end Go.Proofs.YtaokemapkgggoaaDoor
