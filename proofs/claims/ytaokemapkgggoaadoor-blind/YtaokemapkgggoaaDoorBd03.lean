import Derived.Test.YtaokemapkgggoaaDoorBd01
namespace Go.Proofs.YtaokemapkgggoaaDoor
open Go.RowKit

/-- two images that are told apart by their keys' bytes alone -/
structure KTwin (same : Prop) (k l : Kep) : Prop where
  num : k.num = l.num
  pin : k.pin = l.pin
  tries : k.tries = l.tries
  none : ∀ n, n < 4 → ((k.key n).size = 0 ↔ (l.key n).size = 0)
  key : same → ∀ n, n < 4 → k.key n = l.key n
/-- two devices that are told apart by their keys' bytes alone -/
structure Twin (same : Prop) (m : Int) (d e : Dv) : Prop where
  up1 : Up d
  up2 : Up e
  unl : d.unl = e.unl
  k : KTwin same d.k e.k
  le : d.k.num ≤ m
section
variable {same : Prop} {m : Int} {d e : Dv} {k l : Kep}
theorem KTwin.next (h : KTwin same k l) (n : Int) : KTwin same (k.next n) (l.next n) := ⟨rfl, h.pin, h.tries, h.none, h.key⟩
theorem KTwin.less (h : KTwin same k l) : KTwin same k.less l.less := ⟨h.num, h.pin, by show k.tries - 1 = l.tries - 1; rw [h.tries], h.none, h.key⟩
theorem KTwin.full (h : KTwin same k l) : KTwin same k.full l.full := ⟨h.num, h.pin, rfl, h.none, h.key⟩
theorem KTwin.bare (h : KTwin same k l) : KTwin same k.bare l.bare := by
  have hb : ∀ (x : Kep) n, n < 4 → x.bare.key n = ⟨#[]⟩ := fun x n hn => by rcases (by omega : n = 0 ∨ n = 1 ∨ n = 2 ∨ n = 3) with rfl | rfl | rfl | rfl <;> rfl
  exact ⟨h.num, h.pin, h.tries, fun n hn => by rw [hb k n hn, hb l n hn], fun _ n hn => by rw [hb k n hn, hb l n hn]⟩
theorem KTwin.withPin (h : KTwin same k l) (p : ByteArray) : KTwin same (k.withPin p) (l.withPin p) := ⟨h.num, rfl, h.tries, h.none, h.key⟩
theorem kput_num (k : Kep) (n : Nat) (b : ByteArray) : (k.put n b).num = k.num := by
  unfold Kep.put
  repeat' split
  all_goals rfl
theorem KTwin.put (h : KTwin same k l) (i : Nat) (hi : i < 4) (b : ByteArray) : KTwin same (k.put i b) (l.put i b) := by
  refine ⟨by rw [kput_num, kput_num, h.num], by rw [kput_pin, kput_pin, h.pin], by rw [kput_tries, kput_tries, h.tries], fun n hn => ?_, fun hs n hn => ?_⟩
  · rw [put_key _ _ _ _ hi hn, put_key _ _ _ _ hi hn]
    split
    · exact Iff.rfl
    · exact h.none n hn
  · rw [put_key _ _ _ _ hi hn, put_key _ _ _ _ hi hn]
    split
    · rfl
    · exact h.key hs n hn
theorem Twin.wrote (T : Twin same m d e) (h : KTwin same k l) : Twin same (m + 1) (d.wrote k) (e.wrote l) :=
  ⟨T.up1.wrote k, T.up2.wrote l, T.unl, by show KTwin same (k.next (d.k.num + 1)) (l.next (e.k.num + 1)); rw [← T.k.num]; exact h.next _, by have := T.le; show d.k.num + 1 ≤ m + 1; omega⟩
theorem Twin.lock (T : Twin same m d e) : Twin same m d.lock e.lock := ⟨T.up1.lock, T.up2.lock, rfl, T.k, T.le⟩
theorem Twin.open (T : Twin same m d e) : Twin same m d.open e.open := ⟨⟨T.up1.off, T.up1.inn, T.up1.cut⟩, ⟨T.up2.off, T.up2.inn, T.up2.cut⟩, rfl, T.k, T.le⟩
theorem Twin.more (T : Twin same m d e) {m' : Int} (h : m ≤ m') : Twin same m' d e := ⟨T.up1, T.up2, T.unl, T.k, Int.le_trans T.le h⟩
/-- what is answered, but for keys' bytes -/
structure Like (same : Prop) (m : Int) (kind : Int) (c c' : Dv × Int × List UInt8) : Prop where
  dev : Twin same m c.1 c'.1
  st : c.2.1 = c'.2.1
  len : c.2.2.length = c'.2.2.length
  plain : ¬ (kind = 4 ∨ kind = 5) → c.2.2 = c'.2.2
  eq : same → c.2.2 = c'.2.2
theorem Like.of {kind : Int} {st : Int} {r : List UInt8} (T : Twin same m d e) : Like same m kind (d, st, r) (e, st, r) := ⟨T, rfl, rfl, fun _ => rfl, fun _ => rfl⟩
theorem Up.no (U : Up d) : ¬ (0 ≤ d.cut ∧ d.cut < 101) := by have := U.cut; omega
theorem Twin.unlock (T : Twin same m d e) (p : ByteArray) (hm : m + 2 < 4294967295) : Like same (m + 2) 1 (d.unlockC p) (e.unlockC p) := by
  have hle := T.le
  have hn := T.k.num
  have ht := T.k.tries
  have hp := T.k.pin
  have T1 := T.wrote T.k.less
  unfold Dv.unlockC
  by_cases h1 : p.size < 1 ∨ 8 < p.size
  · rw [if_pos h1, if_pos h1]
    exact Like.of (T.more (by omega))
  rw [if_neg h1, if_neg h1]
  by_cases h2 : d.k.tries = 0
  · rw [if_pos h2, if_pos (show e.k.tries = 0 by rw [← ht]; exact h2)]
    exact Like.of (T.more (by omega))
  rw [if_neg h2, if_neg (show ¬ e.k.tries = 0 by rw [← ht]; exact h2), if_neg (show ¬ 4294967295 ≤ d.k.num by omega), if_neg (show ¬ 4294967295 ≤ e.k.num by omega), if_neg T.up1.no, if_neg T.up2.no]
  by_cases h3 : p ≠ d.k.pin
  · rw [if_pos h3, if_pos (show p ≠ e.k.pin by rw [← hp]; exact h3)]
    have hst : ∀ (x y : Dv), Twin same (m + 2) x y → Like same (m + 2) 1 (x, 3, [b8 (d.k.tries - 1)]) (y, 3, [b8 (e.k.tries - 1)]) := fun x y t => by rw [ht]; exact Like.of t
    by_cases h4 : d.k.tries - 1 = 0
    · rw [if_pos (show d.k.tries - 1 = 0 ∧ ¬ 4294967295 ≤ d.k.num + 1 from ⟨h4, by omega⟩), if_pos (show e.k.tries - 1 = 0 ∧ ¬ 4294967295 ≤ e.k.num + 1 from ⟨by rw [← ht]; exact h4, by omega⟩)]
      apply hst
      rw [T1.up1.lock.put, T1.up2.lock.put]
      have := T1.lock.wrote (k := d.k.less.bare) (l := e.k.less.bare) T.k.less.bare
      exact this.more (by omega)
    · rw [if_neg (show ¬ (d.k.tries - 1 = 0 ∧ ¬ 4294967295 ≤ d.k.num + 1) from fun x => h4 x.1), if_neg (show ¬ (e.k.tries - 1 = 0 ∧ ¬ 4294967295 ≤ e.k.num + 1) from fun x => h4 (by rw [ht]; exact x.1))]
      exact hst _ _ (T1.lock.more (by omega))
  · rw [if_neg h3, if_neg (show ¬ p ≠ e.k.pin by rw [← hp]; exact h3), if_neg (show ¬ 4294967295 ≤ d.k.num + 1 by omega), if_neg (show ¬ 4294967295 ≤ e.k.num + 1 by omega), if_neg T1.up1.no, if_neg T1.up2.no]
    exact Like.of ((T1.wrote (k := d.k.less.full) (l := e.k.less.full) T.k.less.full).open.more (by omega))
theorem bits_eq (h : ∀ n, n < 4 → ((k.key n).size = 0 ↔ (l.key n).size = 0)) : ∀ i, i ≤ 4 → k.bits i = l.bits i
  | 0, _ => rfl
  | i + 1, hi => by
    simp only [Kep.bits]
    rw [bits_eq h i (by omega)]
    by_cases hz : (k.key i).size = 0
    · rw [if_pos hz, if_pos ((h i (by omega)).1 hz)]
    · rw [if_neg hz, if_neg (fun x => hz ((h i (by omega)).2 x))]
theorem refSeal_len (a t : List UInt8) : (refSeal sumSpecRef a t).length = 32 := sumRef_length _
theorem Twin.slot (T : Twin same m d e) (kind : Int) (hk : kind = 4 ∨ kind = 5) (p : ByteArray) : Like same m kind (d.slot kind p) (e.slot kind p) := by
  unfold Dv.slot
  by_cases h1 : d.unl = false
  · rw [if_pos h1, if_pos (show e.unl = false by rw [← T.unl]; exact h1)]
    exact Like.of T
  rw [if_neg h1, if_neg (show ¬ e.unl = false by rw [← T.unl]; exact h1)]
  by_cases h2 : p.size = 0 ∨ 4 ≤ hd0 p
  · rw [if_pos h2, if_pos h2]
    exact Like.of T
  have k3 : ¬ kind = 3 := by omega
  rw [if_neg h2, if_neg h2, if_neg (show ¬ (kind = 3 ∧ 20 < (rest1 p).size) from fun x => k3 x.1), if_neg (show ¬ (kind = 3 ∧ 20 < (rest1 p).size) from fun x => k3 x.1), if_neg (show ¬ (kind = 3 ∧ 4294967295 ≤ d.k.num) from fun x => k3 x.1), if_neg (show ¬ (kind = 3 ∧ 4294967295 ≤ e.k.num) from fun x => k3 x.1), if_neg k3, if_neg k3]
  by_cases h3 : kind = 5 ∧ (rest1 p).size ≠ 8
  · rw [if_pos h3, if_pos h3]
    exact Like.of T
  rw [if_neg h3, if_neg h3]
  have h4 : hd0 p < 4 := by omega
  have hz := T.k.none (hd0 p) h4
  by_cases h5 : (d.k.key (hd0 p)).size = 0
  · rw [if_pos h5, if_pos (show (e.k.key (hd0 p)).size = 0 from hz.1 h5)]
    exact Like.of T
  rw [if_neg h5, if_neg (show ¬ (e.k.key (hd0 p)).size = 0 from fun x => h5 (hz.2 x))]
  by_cases h6 : kind = 5
  · rw [if_pos h6, if_pos h6]
    exact ⟨T, rfl, by simp only [toBytes_length, digL_length], fun x => absurd hk x, fun hs => by rw [T.k.key hs _ h4]⟩
  · rw [if_neg h6, if_neg h6]
    exact ⟨T, rfl, by simp only [toBytes_length, refSeal_len], fun x => absurd hk x, fun hs => by rw [T.k.key hs _ h4]⟩
theorem Twin.set (T : Twin same m d e) (p : ByteArray) (hm : m + 2 < 4294967295) : Like same (m + 2) 3 (d.slotC 3 p) (e.slotC 3 p) := by
  have hle := T.le
  have hn := T.k.num
  unfold Dv.slotC
  by_cases h : d.unl = true ∧ ¬ (p.size = 0 ∨ 4 ≤ hd0 p) ∧ ¬ 20 < (rest1 p).size
  · rw [if_pos (show (3 : Int) = 3 ∧ d.unl = true ∧ ¬ (p.size = 0 ∨ 4 ≤ hd0 p) ∧ ¬ 20 < (rest1 p).size ∧ ¬ 4294967295 ≤ d.k.num from ⟨rfl, h.1, h.2.1, h.2.2, by omega⟩), if_pos (show (3 : Int) = 3 ∧ e.unl = true ∧ ¬ (p.size = 0 ∨ 4 ≤ hd0 p) ∧ ¬ 20 < (rest1 p).size ∧ ¬ 4294967295 ≤ e.k.num from ⟨rfl, by rw [← T.unl]; exact h.1, h.2.1, h.2.2, by omega⟩), T.up1.put, T.up2.put]
    exact Like.of ((T.wrote (T.k.put _ (by have := h.2.1; omega) _)).more (by omega))
  · rw [if_neg (show ¬ ((3 : Int) = 3 ∧ d.unl = true ∧ ¬ (p.size = 0 ∨ 4 ≤ hd0 p) ∧ ¬ 20 < (rest1 p).size ∧ ¬ 4294967295 ≤ d.k.num) from fun x => h ⟨x.2.1, x.2.2.1, x.2.2.2.1⟩), if_neg (show ¬ ((3 : Int) = 3 ∧ e.unl = true ∧ ¬ (p.size = 0 ∨ 4 ≤ hd0 p) ∧ ¬ 20 < (rest1 p).size ∧ ¬ 4294967295 ≤ e.k.num) from fun x => h ⟨by rw [T.unl]; exact x.2.1, x.2.2.1, x.2.2.2.1⟩)]
    unfold Dv.slot
    by_cases h1 : d.unl = false
    · rw [if_pos h1, if_pos (show e.unl = false by rw [← T.unl]; exact h1)]
      exact Like.of (T.more (by omega))
    rw [if_neg h1, if_neg (show ¬ e.unl = false by rw [← T.unl]; exact h1)]
    by_cases h2 : p.size = 0 ∨ 4 ≤ hd0 p
    · rw [if_pos h2, if_pos h2]
      exact Like.of (T.more (by omega))
    rw [if_neg h2, if_neg h2]
    by_cases h3 : 20 < (rest1 p).size
    · rw [if_pos (show (3 : Int) = 3 ∧ 20 < (rest1 p).size from ⟨rfl, h3⟩), if_pos (show (3 : Int) = 3 ∧ 20 < (rest1 p).size from ⟨rfl, h3⟩)]
      exact Like.of (T.more (by omega))
    · exact absurd ⟨by simpa using h1, h2, h3⟩ h
/-- whatever is asked, nothing but seals and codes tells them apart -/
theorem Twin.command (T : Twin same m d e) (kind : Int) (p : ByteArray) (hm : m + 2 < 4294967295) : Like same (m + 2) kind (d.commandC kind p) (e.commandC kind p) := by
  have hle := T.le
  have hn := T.k.num
  by_cases h1 : kind = 1
  · subst h1
    unfold Dv.commandC
    rw [if_pos rfl, if_pos rfl]
    exact T.unlock p hm
  by_cases h3 : kind = 3
  · subst h3
    unfold Dv.commandC
    rw [if_neg h1, if_neg h1, if_pos (.inl rfl), if_pos (.inl rfl)]
    exact T.set p hm
  by_cases h6 : kind = 6
  · subst h6
    unfold Dv.commandC
    have n3 : ¬ ((6 : Int) = 3 ∨ (6 : Int) = 4 ∨ (6 : Int) = 5) := by omega
    rw [if_neg h1, if_neg h1, if_neg n3, if_neg n3]
    by_cases h : d.unl = true ∧ ¬ (p.size < 1 ∨ 8 < p.size)
    · rw [if_pos (show (6 : Int) = 6 ∧ d.unl = true ∧ ¬ (p.size < 1 ∨ 8 < p.size) ∧ ¬ 4294967295 ≤ d.k.num from ⟨rfl, h.1, h.2, by omega⟩), if_pos (show (6 : Int) = 6 ∧ e.unl = true ∧ ¬ (p.size < 1 ∨ 8 < p.size) ∧ ¬ 4294967295 ≤ e.k.num from ⟨rfl, by rw [← T.unl]; exact h.1, h.2, by omega⟩), T.up1.put, T.up2.put]
      exact Like.of ((T.wrote (T.k.withPin p)).more (by omega))
    · rw [if_neg (show ¬ ((6 : Int) = 6 ∧ d.unl = true ∧ ¬ (p.size < 1 ∨ 8 < p.size) ∧ ¬ 4294967295 ≤ d.k.num) from fun x => h ⟨x.2.1, x.2.2.1⟩), if_neg (show ¬ ((6 : Int) = 6 ∧ e.unl = true ∧ ¬ (p.size < 1 ∨ 8 < p.size) ∧ ¬ 4294967295 ≤ e.k.num) from fun x => h ⟨by rw [T.unl]; exact x.2.1, x.2.2.1⟩)]
      unfold Dv.command
      have n2 : ¬ (6 : Int) = 2 := by omega
      have n7 : ¬ (6 : Int) = 7 := by omega
      rw [if_neg h1, if_neg h1, if_neg n2, if_neg n2, if_neg n7, if_neg n7, if_neg n3, if_neg n3, if_pos (show (6 : Int) = 6 from rfl), if_pos (show (6 : Int) = 6 from rfl)]
      by_cases h2 : d.unl = false
      · rw [if_pos h2, if_pos (show e.unl = false by rw [← T.unl]; exact h2)]
        exact Like.of (T.more (by omega))
      rw [if_neg h2, if_neg (show ¬ e.unl = false by rw [← T.unl]; exact h2)]
      by_cases h4 : p.size < 1 ∨ 8 < p.size
      · rw [if_pos h4, if_pos h4]
        exact Like.of (T.more (by omega))
      · exact absurd ⟨by simpa using h2, h4⟩ h
  rw [Dv.commandC_command h1 h3 h6, Dv.commandC_command h1 h3 h6]
  unfold Dv.command
  rw [if_neg h1, if_neg h1]
  by_cases h2 : kind = 2
  · rw [if_pos h2, if_pos h2]
    split
    · exact Like.of (T.lock.more (by omega))
    · exact Like.of (T.more (by omega))
  rw [if_neg h2, if_neg h2]
  by_cases h7 : kind = 7
  · rw [if_pos h7, if_pos h7]
    split
    · rw [T.unl, T.k.tries, bits_eq T.k.none 4 (Nat.le_refl _)]
      exact Like.of (T.more (by omega))
    · exact Like.of (T.more (by omega))
  rw [if_neg h7, if_neg h7]
  by_cases h45 : kind = 3 ∨ kind = 4 ∨ kind = 5
  · rw [if_pos h45, if_pos h45]
    have L := T.slot kind (by omega) p
    exact ⟨L.dev.more (by omega), L.st, L.len, L.plain, L.eq⟩
  · rw [if_neg h45, if_neg h45, if_neg h6, if_neg h6]
    exact Like.of (T.more (by omega))
/-- a whole frame, fed to both -/
theorem Twin.fed (T : Twin same m d e) (kind : Int) (p : List UInt8) (h0 : 0 ≤ kind) (h1 : kind < 256) (hp : p.length ≤ 48) (hm : m + 2 < 4294967295) :
    ∃ (st : Int) (r r' : List UInt8) (d' e' : Dv), Proofs.YtaokemapkgggoaaDoor.fed d (told kind p) = (told st r, d') ∧ Proofs.YtaokemapkgggoaaDoor.fed e (told kind p) = (told st r', e') ∧ Twin same (m + 2) d' e' ∧ r.length = r'.length ∧ (¬ (kind = 4 ∨ kind = 5) → r = r') ∧ (same → r = r') := by
  have L := T.command kind (str p) hm
  obtain ⟨⟨d', st, r⟩, hc⟩ : ∃ c, d.commandC kind (str p) = c := ⟨_, rfl⟩
  obtain ⟨⟨e', st', r'⟩, hc'⟩ : ∃ c, e.commandC kind (str p) = c := ⟨_, rfl⟩
  rw [hc, hc'] at L
  obtain ⟨L1, L2, L3, L4, L5⟩ := L
  simp only at L1 L2 L3 L4 L5
  subst L2
  exact ⟨st, r, r', d', e', fed_on kind p h0 h1 hp T.up1.off T.up1.inn hc L1.up1.off L1.up1.inn, fed_on kind p h0 h1 hp T.up2.off T.up2.inn hc' L1.up2.off L1.up2.inn, L1, L3, L4, L5⟩
end
end Go.Proofs.YtaokemapkgggoaaDoor
