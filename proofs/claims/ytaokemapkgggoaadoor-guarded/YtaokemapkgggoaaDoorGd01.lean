import Derived.Test.YtaokemapkgggoaaDoorKb26
import Derived.Test.YtaokemapkgggoaaDoorKb30
namespace Go.Proofs.YtaokemapkgggoaaDoor
open Go.RowKit

/-- one try of a PIN, wherever the power goes: a try less is kept ahead of the look at the PIN -/
theorem unlock_guard (d : Dv) (p : ByteArray) (ho : d.off = false) (h1 : ¬ (p.size < 1 ∨ 8 < p.size)) (hn : d.k.num + 2 < 4294967295) (hn0 : 0 ≤ d.k.num) :
    (d.unlockC p).1.k.pin = d.k.pin ∧ (d.unlockC p).1.k.num ≤ d.k.num + 2 ∧ d.k.num ≤ (d.unlockC p).1.k.num ∧
    (d.k.tries = 0 → d.unlockC p = (d, 5, [])) ∧
    (¬ d.k.tries = 0 →
      ((d.unlockC p).1.off = true ∧ 0 ≤ d.cut ∧ (d.unlockC p).1.unl = false ∧ ((d.unlockC p).1.k.tries = d.k.tries ∨ (d.unlockC p).1.k.tries = d.k.tries - 1)) ∨
      ((d.unlockC p).1.off = false ∧ p = d.k.pin ∧ (d.unlockC p).2 = (0, []) ∧ (d.unlockC p).1.k.tries = 5 ∧ (d.unlockC p).1.unl = true) ∨
      ((d.unlockC p).1.off = false ∧ ¬ p = d.k.pin ∧ (d.unlockC p).2 = (3, [b8 (d.k.tries - 1)]) ∧ (d.unlockC p).1.k.tries = d.k.tries - 1 ∧ (d.unlockC p).1.unl = false)) := by
  unfold Dv.unlockC
  rw [if_neg h1]
  by_cases ht : d.k.tries = 0
  · rw [if_pos ht]
    exact ⟨rfl, by dsimp only; omega, Int.le_refl _, fun _ => rfl, fun x => absurd ht x⟩
  · rw [if_neg ht, if_neg (show ¬ 4294967295 ≤ d.k.num by omega)]
    by_cases hc : 0 ≤ d.cut ∧ d.cut < 101
    · rw [if_pos hc]
      exact ⟨rfl, by show d.k.num ≤ _; omega, Int.le_refl _, fun x => absurd x ht, fun _ => .inl ⟨rfl, hc.1, rfl, .inl rfl⟩⟩
    · rw [if_neg hc]
      by_cases hq : p = d.k.pin
      · rw [if_neg (fun x => x hq), if_neg (show ¬ 4294967295 ≤ d.k.num + 1 by omega)]
        by_cases hc2 : 0 ≤ (d.wrote d.k.less).cut ∧ (d.wrote d.k.less).cut < 101
        · rw [if_pos hc2]
          have hcut : 0 ≤ d.cut := by
            have h3 := hc2.1
            simp only [Dv.wrote] at h3
            split at h3 <;> omega
          exact ⟨rfl, by show d.k.num + 1 ≤ _; omega, by show d.k.num ≤ d.k.num + 1; omega, fun x => absurd x ht, fun _ => .inl ⟨rfl, hcut, rfl, .inr rfl⟩⟩
        · rw [if_neg hc2]
          exact ⟨rfl, by show d.k.num + 1 + 1 ≤ _; omega, by show d.k.num ≤ d.k.num + 1 + 1; omega, fun x => absurd x ht, fun _ => .inr (.inl ⟨ho, hq, rfl, rfl, rfl⟩)⟩
      · rw [if_pos hq]
        by_cases hz : d.k.tries - 1 = 0
        · rw [if_pos ⟨hz, show ¬ 4294967295 ≤ d.k.num + 1 by omega⟩]
          unfold Dv.put
          by_cases hc2 : 0 ≤ (d.wrote d.k.less).lock.cut ∧ (d.wrote d.k.less).lock.cut < 101
          · rw [if_pos hc2]
            have hcut : 0 ≤ d.cut := by
              have h3 := hc2.1
              simp only [Dv.wrote, Dv.lock] at h3
              split at h3 <;> omega
            exact ⟨rfl, by show d.k.num + 1 ≤ _; omega, by show d.k.num ≤ d.k.num + 1; omega, fun x => absurd x ht, fun _ => .inl ⟨rfl, hcut, rfl, .inr rfl⟩⟩
          · rw [if_neg hc2]
            exact ⟨rfl, by show d.k.num + 1 + 1 ≤ _; omega, by show d.k.num ≤ d.k.num + 1 + 1; omega, fun x => absurd x ht, fun _ => .inr (.inr ⟨ho, hq, rfl, rfl, rfl⟩)⟩
        · rw [if_neg (fun x => hz x.1)]
          exact ⟨rfl, by show d.k.num + 1 ≤ _; omega, by show d.k.num ≤ d.k.num + 1; omega, fun x => absurd x ht, fun _ => .inr (.inr ⟨ho, hq, rfl, rfl, rfl⟩)⟩
end Go.Proofs.YtaokemapkgggoaaDoor

namespace Go.Proofs.YtaokemapkgggoaaDoor
open Go.RowKit

/-- a device between two tries -/
structure GuardAt (p : List UInt8) (left : Int) (m : Int) (d : Dv) : Prop where
  off : d.off = false
  inn : d.inn = ⟨#[]⟩
  cut : d.cut < 0
  pin : d.k.pin = str p
  tries : d.k.tries = left
  lock : left = 0 → d.unl = false
  num : d.k.num ≤ m
theorem unlockC_cut {d : Dv} (h : d.cut < 0) (p : ByteArray) : (d.unlockC p).1.cut < 0 := by
  have hw : ∀ (e : Dv) (k : Kep), e.cut < 0 → (e.wrote k).cut < 0 := fun e k he => by simp only [Dv.wrote]; rw [if_pos he]; exact he
  have hn : ∀ (e : Dv), e.cut < 0 → ¬ (0 ≤ e.cut ∧ e.cut < 101) := fun e he => by omega
  unfold Dv.unlockC
  split
  · exact h
  split
  · exact h
  split
  · exact h
  rw [if_neg (hn d h)]
  split
  · dsimp only
    split
    · unfold Dv.put
      have hl : (d.wrote d.k.less).lock.cut < 0 := hw d d.k.less h
      rw [if_neg (hn _ hl)]
      exact hw _ d.k.less.bare hl
    · exact hw d d.k.less h
  split
  · exact hw d d.k.less h
  rw [if_neg (hn _ (hw d d.k.less h))]
  exact hw (d.wrote d.k.less) d.k.less.full (hw d d.k.less h)
theorem unlockC_inn (d : Dv) (p : ByteArray) (h : d.inn = ⟨#[]⟩) : (d.unlockC p).1.inn = ⟨#[]⟩ := by
  have := Dv.unlockC_withIn d [] p
  rw [withIn_self h] at this
  rw [this]
  rfl
/-- what a try leaves, behind a boot where there was a cut -/
def after (cut : Bool) (d : Dv) : Dv := if cut then d.booted else d
/-- one try, wherever the power goes -/
theorem guard_round {p q : List UInt8} {left m : Int} {d D0 : Dv} {cut : Bool} {n : Nat} (A : GuardAt p left m d) (hD : D0 = if cut then { d with cut := n } else d) (hq1 : 1 ≤ q.length) (hq2 : q.length ≤ 8) (hs : d.sound) (hm : m + 2 < 4294967295) :
    ∃ left', GuardAt p left' (m + 2) (after cut (fed D0 (told 1 q)).2) ∧ 0 ≤ left' ∧ left' ≤ 5 ∧
    (((fed D0 (told 1 q)).1 = [] ∧ cut = true ∧ (after cut (fed D0 (told 1 q)).2).unl = false ∧ (left' = left ∨ left' = left - 1)) ∨
     (left = 0 ∧ (fed D0 (told 1 q)).1 = told 5 [] ∧ left' = 0 ∧ (after cut (fed D0 (told 1 q)).2).unl = false) ∨
     (¬ left = 0 ∧ q = p ∧ (fed D0 (told 1 q)).1 = told 0 [] ∧ left' = 5) ∨
     (¬ left = 0 ∧ ¬ q = p ∧ (fed D0 (told 1 q)).1 = told 3 [b8 (left - 1)] ∧ left' = left - 1 ∧ (after cut (fed D0 (told 1 q)).2).unl = false)) := by
  have hk : D0.k = d.k := by rw [hD]; split <;> rfl
  have ho : D0.off = false := by rw [hD]; split <;> exact A.off
  have hi : D0.inn = ⟨#[]⟩ := by rw [hD]; split <;> exact A.inn
  have hu : D0.unl = d.unl := by rw [hD]; split <;> rfl
  have t0 := hs.t0
  have t1 := hs.t1
  have n0 := hs.n0
  have ht := A.tries
  have hnm := A.num
  have hG := unlock_guard D0 (str q) ho (by rw [str_size]; omega) (by rw [hk]; omega) (by rw [hk]; omega)
  rw [hk] at hG
  obtain ⟨g1, g2, g3, g4, g5⟩ := hG
  have e0 : D0.commandC 1 (str q) = D0.unlockC (str q) := by unfold Dv.commandC; rw [if_pos rfl]
  have hf := fed_cmd 1 q (by omega) (by omega) (by omega) ho hi e0
  have hci : ((D0.unlockC (str q)).1).inn = ⟨#[]⟩ := unlockC_inn D0 _ hi
  have hcc : cut = false → ((D0.unlockC (str q)).1).cut < 0 := by
    intro hc
    rw [hc] at hD
    rw [hD]
    exact unlockC_cut A.cut _
  have hcut0 : 0 ≤ D0.cut → cut = true := by
    intro h
    cases cut with
    | true => rfl
    | false =>
      rw [hD] at h
      exact absurd A.cut (by
        have h' : 0 ≤ d.cut := h
        omega)
  obtain ⟨c, hc⟩ : ∃ c, c = D0.unlockC (str q) := ⟨_, rfl⟩
  rw [← hc] at g1 g2 g3 g4 g5 hf hci hcc
  rw [hf]
  have hA : ∀ (x : Int) (hx : c.1.k.tries = x) (ho' : cut = false → c.1.off = false) (hl : x = 0 → (after cut (c.1.withIn [])).unl = false), GuardAt p x (m + 2) (after cut (c.1.withIn [])) := by
    intro x hx ho' hl
    cases cut with
    | true => exact ⟨rfl, rfl, by show (-1 : Int) < 0; omega, g1.trans A.pin, hx, hl, by show c.1.k.num ≤ _; omega⟩
    | false => exact ⟨ho' rfl, rfl, hcc rfl, g1.trans A.pin, hx, hl, by show c.1.k.num ≤ _; omega⟩
  have hun : c.1.unl = false → (after cut (c.1.withIn [])).unl = false := by
    intro h
    cases cut with
    | true => rfl
    | false => exact h
  by_cases hz : d.k.tries = 0
  · have h5 := g4 hz
    have hcu : c.1.unl = false := by rw [h5]; show D0.unl = false; rw [hu]; exact A.lock (by omega)
    refine ⟨0, hA 0 (by rw [h5]; show D0.k.tries = 0; rw [hk]; exact hz) (fun _ => by rw [h5]; exact ho) (fun _ => hun hcu), by omega, by omega, .inr (.inl ⟨by omega, ?_, rfl, hun hcu⟩)⟩
    dsimp only
    rw [h5]
    dsimp only
    rw [if_neg (by rw [ho]; decide)]
  · rcases g5 hz with ⟨a1, a2, a3, a4⟩ | ⟨a1, a2, a3, a4, a5⟩ | ⟨a1, a2, a3, a4, a5⟩
    · have hct := hcut0 a2
      refine ⟨c.1.k.tries, hA _ rfl (fun h => by rw [h] at hct; cases hct) (fun _ => hun a3), by omega, by omega, .inl ⟨?_, hct, hun a3, by omega⟩⟩
      dsimp only
      rw [if_pos a1]
    · refine ⟨5, hA 5 a4 (fun _ => a1) (fun h => absurd h (by omega)), by omega, by omega, .inr (.inr (.inl ⟨by omega, ?_, ?_, rfl⟩))⟩
      · rw [A.pin] at a2
        have := congrArg (fun b : ByteArray => b.data.toList) a2
        simpa only [str_list] using this
      · dsimp only
        rw [if_neg (by rw [a1]; decide), a3]
    · refine ⟨d.k.tries - 1, hA _ a4 (fun _ => a1) (fun _ => hun a5), by omega, by omega, .inr (.inr (.inr ⟨by omega, ?_, ?_, by omega, hun a5⟩))⟩
      · intro h
        apply a2
        rw [A.pin, h]
      · dsimp only
        rw [if_neg (by rw [a1]; decide), a3, ht]
end Go.Proofs.YtaokemapkgggoaaDoor
