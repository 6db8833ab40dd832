import Derived.Test.YtaokemapkgggoaaDoorKb32
namespace Go.Proofs.YtaokemapkgggoaaDoor
open Go.RowKit

theorem hd0_cons (x : UInt8) (l : List UInt8) : hd0 (str (x :: l)) = x.toNat := by
  unfold hd0
  rw [str_list]
  rfl
theorem rest1_cons (x : UInt8) (l : List UInt8) : rest1 (str (x :: l)) = str l := by
  unfold rest1
  apply ByteArray.ext
  apply Array.toList_inj.1
  rw [ByteArray.data_extract, Array.toList_extract, List.extract_eq_take_drop, str_list, str_list, str_size]
  simp

/-- a device with power that will not go, and that waits for nothing -/
structure Up (d : Dv) : Prop where
  off : d.off = false
  inn : d.inn = ⟨#[]⟩
  cut : d.cut < 0
section
variable {d : Dv}
theorem Up.put (U : Up d) (k : Kep) : d.put k = d.wrote k := by
  unfold Dv.put
  exact if_neg (by have := U.cut; omega)
theorem Up.wrote (U : Up d) (k : Kep) : Up (d.wrote k) := ⟨U.off, U.inn, by show (if d.cut < 0 then d.cut else d.cut - 101) < 0; rw [if_pos U.cut]; exact U.cut⟩
theorem fresh_up (p : ByteArray) : Up (Dv.fresh 0 p) := ⟨rfl, rfl, by show (-1 : Int) < 0; omega⟩
theorem booted_up (d : Dv) : Up d.booted := ⟨rfl, rfl, by show (-1 : Int) < 0; omega⟩

/-- the right PIN -/
theorem fed_right (U : Up d) (p : List UInt8) (hp : d.k.pin = str p) (h1 : 1 ≤ p.length) (h2 : p.length ≤ 8) (ht : ¬ d.k.tries = 0) (hn : d.k.num + 2 < 4294967295) :
    ∃ e, fed d (told 1 p) = (told 0 [], e) ∧ Up e ∧ e.unl = true ∧ e.k = ({ d.k with tries := 5, num := d.k.num + 1 + 1 } : Kep) := by
  have hn0 : ¬ (0 ≤ d.cut ∧ d.cut < 101) := by have := U.cut; omega
  have U1 := U.wrote d.k.less
  have U2 := U1.wrote d.k.less.full
  refine ⟨((d.wrote d.k.less).wrote d.k.less.full).open, ?_, ⟨U2.off, U2.inn, U2.cut⟩, rfl, rfl⟩
  refine fed_on 1 p (by omega) (by omega) (by omega) U.off U.inn ?_ U2.off U2.inn
  unfold Dv.commandC
  rw [if_pos rfl]
  unfold Dv.unlockC
  rw [if_neg (by rw [str_size]; omega), if_neg ht, if_neg (by omega), if_neg hn0, if_neg (by rw [hp]; exact fun x => x rfl), if_neg (by omega), if_neg (by have := U1.cut; omega)]
/-- a key is set -/
theorem fed_set (U : Up d) (hu : d.unl = true) (x : UInt8) (hx : x.toNat < 4) (l : List UInt8) (hl : l.length ≤ 20) (hw : d.k.num < 4294967295) :
    fed d (told 3 (x :: l)) = (told 0 [], d.wrote (d.k.put x.toNat (str l))) := by
  have U1 := U.wrote (d.k.put x.toNat (str l))
  refine fed_on 3 (x :: l) (by omega) (by omega) (by simp; omega) U.off U.inn ?_ U1.off U1.inn
  unfold Dv.commandC
  rw [if_neg (by omega), if_pos (.inl rfl)]
  unfold Dv.slotC
  rw [hd0_cons, rest1_cons, if_pos ⟨rfl, hu, by rw [str_size]; simp; omega, by rw [str_size]; omega, by omega⟩, U.put]
theorem fed_slot (U : Up d) (ki : Int) (hk : ki = 4 ∨ ki = 5) (p : List UInt8) (hp : p.length ≤ 48) {st : Int} {r : List UInt8} (h : d.slot ki (str p) = (d, st, r)) : fed d (told ki p) = (told st r, d) := by
  refine fed_on ki p (by omega) (by omega) hp U.off U.inn ?_ U.off U.inn
  rw [Dv.commandC_command (by omega) (by omega) (by omega)]
  unfold Dv.command
  rw [if_neg (by omega), if_neg (by omega), if_neg (by omega), if_pos (by omega)]
  exact h
theorem slot_ok (x : UInt8) (hx : x.toNat < 4) (m : List UInt8) : ¬ ((str (x :: m)).size = 0 ∨ 4 ≤ hd0 (str (x :: m))) := by
  rw [hd0_cons, str_size]
  simp
  omega
/-- nothing is told by a slot without a key -/
theorem fed_none4 (U : Up d) (hu : d.unl = true) (x : UInt8) (hx : x.toNat < 4) (m : List UInt8) (hm : m.length ≤ 47) (hk : (d.k.key x.toNat).size = 0) : fed d (told 4 (x :: m)) = (told 5 [], d) := by
  refine fed_slot U 4 (.inl rfl) (x :: m) (by simp; omega) ?_
  unfold Dv.slot
  rw [if_neg (by rw [hu]; decide), if_neg (slot_ok x hx m), if_neg (fun e => absurd e.1 (by omega)), if_neg (fun e => absurd e.1 (by omega)), if_neg (by omega), if_neg (fun e => absurd e.1 (by omega)), if_pos (by rw [hd0_cons]; exact hk)]
theorem key_list {k : ByteArray} (h : k.size ≤ 20) : k.data.toList.length ≤ 20 := by rw [Array.length_toList]; exact h
/-- a seal -/
theorem fed_seal (U : Up d) (hu : d.unl = true) (x : UInt8) (hx : x.toNat < 4) (m : List UInt8) (hm : m.length ≤ 47) (hk : ¬ (d.k.key x.toNat).size = 0) (hk2 : (d.k.key x.toNat).size ≤ 20) :
    fed d (told 4 (x :: m)) = (told 0 (toBytes (sealSpec (blk 20 (d.k.key x.toNat).data.toList) m)), d) := by
  refine fed_slot U 4 (.inl rfl) (x :: m) (by simp; omega) ?_
  unfold Dv.slot
  rw [if_neg (by rw [hu]; decide), if_neg (slot_ok x hx m), if_neg (fun e => absurd e.1 (by omega)), if_neg (fun e => absurd e.1 (by omega)), if_neg (by omega), if_neg (fun e => absurd e.1 (by omega)), if_neg (by rw [hd0_cons]; exact hk), if_neg (by omega)]
  rw [hd0_cons, rest1_cons, str_list, refSeal_eq (key_list hk2)]
end

/-- what stands in a slot behind a set -/
theorem put_key (k : Kep) (n m : Nat) (b : ByteArray) (hn : n < 4) (hm : m < 4) : (k.put n b).key m = if m = n then b else k.key m := by
  rcases (by omega : n = 0 ∨ n = 1 ∨ n = 2 ∨ n = 3) with rfl | rfl | rfl | rfl <;> rcases (by omega : m = 0 ∨ m = 1 ∨ m = 2 ∨ m = 3) with rfl | rfl | rfl | rfl <;> rfl
theorem kput_pin (k : Kep) (n : Nat) (b : ByteArray) : (k.put n b).pin = k.pin := by
  unfold Kep.put
  repeat' split
  all_goals rfl
theorem kput_tries (k : Kep) (n : Nat) (b : ByteArray) : (k.put n b).tries = k.tries := by
  unfold Kep.put
  repeat' split
  all_goals rfl
theorem next_key (k : Kep) (n : Int) (m : Nat) : (k.next n).key m = k.key m := rfl
theorem key_le {d : Dv} (h : d.sound) (n : Nat) : (d.k.key n).size ≤ 20 := by
  unfold Kep.key
  repeat' split
  · exact h.k0
  · exact h.k1
  · exact h.k2
  · exact h.k3

/-- an unlocked device whose slots have these keys -/
structure Fine (p : List UInt8) (m : Int) (ss : List ByteArray) (d : Dv) : Prop where
  up : Up d
  unl : d.unl = true
  pin : d.k.pin = str p
  tries : d.k.tries = 5
  num : d.k.num ≤ m
  len : ss.length = 4
  key : ∀ n, n < 4 → d.k.key n = ss.getD n ⟨#[]⟩
theorem fine_fresh (p : List UInt8) (h1 : 1 ≤ p.length) (h2 : p.length ≤ 8) : ∃ e, fed (Dv.fresh 0 (str p)) (told 1 p) = (told 0 [], e) ∧ Fine p 3 [⟨#[]⟩, ⟨#[]⟩, ⟨#[]⟩, ⟨#[]⟩] e := by
  obtain ⟨e, he, U, hu, hk⟩ := fed_right (fresh_up (str p)) p rfl h1 h2 (by show ¬ (5 : Int) = 0; omega) (by show (1 : Int) + 2 < _; omega)
  refine ⟨e, he, U, hu, by rw [hk]; rfl, by rw [hk], by rw [hk]; exact Int.le_refl _, rfl, fun n hn => ?_⟩
  rw [hk]
  rcases (by omega : n = 0 ∨ n = 1 ∨ n = 2 ∨ n = 3) with rfl | rfl | rfl | rfl <;> rfl
theorem Fine.set {p : List UInt8} {m : Int} {ss : List ByteArray} {d : Dv} (F : Fine p m ss d) (x : UInt8) (n : Nat) (hx : x.toNat = n) (hn : n < 4) (l : List UInt8) (hl : l.length ≤ 20) (hm : m < 4294967295) :
    ∃ e, fed d (told 3 (x :: l)) = (told 0 [], e) ∧ Fine p (m + 1) (ss.set n (str l)) e := by
  subst hx
  have hnum := F.num
  refine ⟨_, fed_set F.up F.unl x hn l hl (by omega), F.up.wrote _, F.unl, (kput_pin _ _ _).trans F.pin, (kput_tries _ _ _).trans F.tries, by show d.k.num + 1 ≤ _; omega, by rw [List.length_set]; exact F.len, fun j hj => ?_⟩
  show ((d.k.put x.toNat (str l)).next _).key j = _
  rw [next_key, put_key _ _ _ _ hn hj, List.getD_eq_getElem?_getD, List.getElem?_set, F.len]
  by_cases hji : j = x.toNat
  · rw [if_pos hji, if_pos hji.symm, if_pos hn]; rfl
  · rw [if_neg hji, if_neg (fun e => hji e.symm), F.key j hj, List.getD_eq_getElem?_getD]

/-- a device, locked or not, whose slots have these keys -/
structure Kept5 (p : List UInt8) (m : Int) (ss : List ByteArray) (d : Dv) : Prop where
  up : Up d
  pin : d.k.pin = str p
  tries : d.k.tries = 5
  num : d.k.num ≤ m
  len : ss.length = 4
  key : ∀ n, n < 4 → d.k.key n = ss.getD n ⟨#[]⟩
theorem Kept5.right {p : List UInt8} {m : Int} {ss : List ByteArray} {d : Dv} (F : Kept5 p m ss d) (h1 : 1 ≤ p.length) (h2 : p.length ≤ 8) (hm : m + 2 < 4294967295) :
    ∃ e, fed d (told 1 p) = (told 0 [], e) ∧ Fine p (m + 2) ss e := by
  have hn := F.num
  obtain ⟨e, he, U, hu, hk⟩ := fed_right F.up p F.pin h1 h2 (by rw [F.tries]; omega) (by omega)
  exact ⟨e, he, U, hu, by rw [hk]; exact F.pin, by rw [hk], by rw [hk]; show d.k.num + 1 + 1 ≤ _; omega, F.len, fun n hn => by rw [hk]; exact F.key n hn⟩
/-- a key is set, and in its middle the power may go; then it is booted -/
theorem torn_slot {p : List UInt8} {m : Int} {ss : List ByteArray} {d : Dv} (F : Fine p m ss d) (x : UInt8) (n : Nat) (hx : x.toNat = n) (hn : n < 4) (l : List UInt8) (hl : l.length ≤ 20) (hm : m < 4294967295) (c : Nat) :
    ∃ e, fed { d with cut := c } (told 3 (x :: l)) = ((if c < 101 then [] else told 0 []), e) ∧ Kept5 p (m + 1) (if c < 101 then ss else ss.set n (str l)) e.booted := by
  subst hx
  have hnum := F.num
  obtain ⟨D, hD⟩ : ∃ D : Dv, D = { d with cut := (c : Int) } := ⟨_, rfl⟩
  have hc : D.commandC 3 (str (x :: l)) = (D.put (D.k.put x.toNat (str l)), 0, []) := by
    unfold Dv.commandC
    rw [if_neg (by omega), if_pos (.inl rfl)]
    unfold Dv.slotC
    rw [hd0_cons, rest1_cons, if_pos ⟨rfl, by rw [hD]; exact F.unl, by rw [str_size]; simp; omega, by rw [str_size]; omega, by rw [hD]; show ¬ 4294967295 ≤ d.k.num; omega⟩]
  have hf := fed_cmd 3 (x :: l) (by omega) (by omega) (by simp; omega) (by rw [hD]; exact F.up.off) (by rw [hD]; exact F.up.inn) hc
  rw [hD] at hf
  replace hf : fed { d with cut := c } (told 3 (x :: l)) = ((if (({ d with cut := (c : Int) } : Dv).put (d.k.put x.toNat (str l))).off = true then [] else told 0 []), (({ d with cut := (c : Int) } : Dv).put (d.k.put x.toNat (str l))).withIn []) := hf
  by_cases hlt : c < 101
  · have hp : ({ d with cut := (c : Int) } : Dv).put (d.k.put x.toNat (str l)) = ({ d with cut := (c : Int) } : Dv).torn (d.k.put x.toNat (str l)) := by
      unfold Dv.put
      exact if_pos (by show 0 ≤ (c : Int) ∧ (c : Int) < 101; omega)
    rw [if_pos hlt, if_pos hlt]
    rw [hp] at hf
    refine ⟨(({ d with cut := (c : Int) } : Dv).torn (d.k.put x.toNat (str l))).withIn [], hf.trans ?_, booted_up _, ?_, ?_, ?_, F.len, ?_⟩
    · rfl
    · exact F.pin
    · exact F.tries
    · show d.k.num ≤ m + 1; omega
    · exact F.key
  · rw [if_neg hlt, if_neg hlt]
    have hp : ({ d with cut := (c : Int) } : Dv).put (d.k.put x.toNat (str l)) = ({ d with cut := (c : Int) } : Dv).wrote (d.k.put x.toNat (str l)) := by
      unfold Dv.put
      exact if_neg (by show ¬ (0 ≤ (c : Int) ∧ (c : Int) < 101); omega)
    rw [hp] at hf
    refine ⟨(({ d with cut := (c : Int) } : Dv).wrote (d.k.put x.toNat (str l))).withIn [], hf.trans ?_, booted_up _, ?_, ?_, ?_, ?_, fun j hj => ?_⟩
    · show ((if d.off = true then [] else told 0 []), _) = _
      rw [if_neg (by rw [F.up.off]; decide)]
    · exact (kput_pin _ _ _).trans F.pin
    · exact (kput_tries _ _ _).trans F.tries
    · show d.k.num + 1 ≤ m + 1
      omega
    · rw [List.length_set]; exact F.len
    · show ((d.k.put x.toNat (str l)).next _).key j = _
      rw [next_key, put_key _ _ _ _ hn hj, List.getD_eq_getElem?_getD, List.getElem?_set, F.len]
      by_cases hji : j = x.toNat
      · rw [if_pos hji, if_pos hji.symm, if_pos hn]; rfl
      · rw [if_neg hji, if_neg (fun e => hji e.symm), F.key j hj, List.getD_eq_getElem?_getD]
/-- a PIN is set, and in its middle the power may go; then it is booted -/
theorem torn_pin {p : List UInt8} {m : Int} {ss : List ByteArray} {d : Dv} (F : Fine p m ss d) (l : List UInt8) (hl1 : 1 ≤ l.length) (hl : l.length ≤ 8) (hm : m < 4294967295) (c : Nat) :
    ∃ e, fed { d with cut := c } (told 6 l) = ((if c < 101 then [] else told 0 []), e) ∧ Kept5 (if c < 101 then p else l) (m + 1) ss e.booted := by
  have hnum := F.num
  obtain ⟨D, hD⟩ : ∃ D : Dv, D = { d with cut := (c : Int) } := ⟨_, rfl⟩
  have hc : D.commandC 6 (str l) = (D.put (D.k.withPin (str l)), 0, []) := by
    unfold Dv.commandC
    rw [if_neg (by omega), if_neg (by omega), if_pos ⟨rfl, by rw [hD]; exact F.unl, by rw [str_size]; omega, by rw [hD]; show ¬ 4294967295 ≤ d.k.num; omega⟩]
  have hf := fed_cmd 6 l (by omega) (by omega) (by omega) (by rw [hD]; exact F.up.off) (by rw [hD]; exact F.up.inn) hc
  rw [hD] at hf
  replace hf : fed { d with cut := c } (told 6 l) = ((if (({ d with cut := (c : Int) } : Dv).put (d.k.withPin (str l))).off = true then [] else told 0 []), (({ d with cut := (c : Int) } : Dv).put (d.k.withPin (str l))).withIn []) := hf
  by_cases hlt : c < 101
  · have hp : ({ d with cut := (c : Int) } : Dv).put (d.k.withPin (str l)) = ({ d with cut := (c : Int) } : Dv).torn (d.k.withPin (str l)) := by
      unfold Dv.put
      exact if_pos (by show 0 ≤ (c : Int) ∧ (c : Int) < 101; omega)
    rw [if_pos hlt, if_pos hlt]
    rw [hp] at hf
    refine ⟨(({ d with cut := (c : Int) } : Dv).torn (d.k.withPin (str l))).withIn [], hf.trans ?_, booted_up _, ?_, ?_, ?_, F.len, ?_⟩
    · rfl
    · exact F.pin
    · exact F.tries
    · show d.k.num ≤ m + 1; omega
    · exact F.key
  · have hp : ({ d with cut := (c : Int) } : Dv).put (d.k.withPin (str l)) = ({ d with cut := (c : Int) } : Dv).wrote (d.k.withPin (str l)) := by
      unfold Dv.put
      exact if_neg (by show ¬ (0 ≤ (c : Int) ∧ (c : Int) < 101); omega)
    rw [if_neg hlt, if_neg hlt]
    rw [hp] at hf
    refine ⟨(({ d with cut := (c : Int) } : Dv).wrote (d.k.withPin (str l))).withIn [], hf.trans ?_, booted_up _, ?_, ?_, ?_, F.len, ?_⟩
    · show ((if d.off = true then [] else told 0 []), _) = _
      rw [if_neg (by rw [F.up.off]; decide)]
    · rfl
    · exact F.tries
    · show d.k.num + 1 ≤ m + 1; omega
    · exact F.key
/-- what is told of the seal of a message by a slot with this key -/
def sealTold (k : ByteArray) (m : List UInt8) : List UInt8 := if k.size = 0 then told 5 [] else told 0 (toBytes (sealSpec (blk 20 k.data.toList) m))
theorem Fine.seal {p : List UInt8} {m : Int} {ss : List ByteArray} {d : Dv} (F : Fine p m ss d) (S : d.sound) (x : UInt8) (n : Nat) (hx : x.toNat = n) (hn : n < 4) (t : List UInt8) (ht : t.length ≤ 47) :
    fed d (told 4 (x :: t)) = (sealTold (ss.getD n ⟨#[]⟩) t, d) := by
  subst hx
  have hk := F.key x.toNat hn
  unfold sealTold
  by_cases hz : (ss.getD x.toNat ⟨#[]⟩).size = 0
  · rw [if_pos hz]
    exact fed_none4 F.up F.unl x hn t ht (by rw [hk]; exact hz)
  · rw [if_neg hz]
    have := fed_seal F.up F.unl x hn t ht (by rw [hk]; exact hz) (key_le S _)
    rw [hk] at this
    exact this
theorem Fine.key_le {p : List UInt8} {m : Int} {ss : List ByteArray} {d : Dv} (F : Fine p m ss d) (S : d.sound) (n : Nat) (hn : n < 4) : (ss.getD n ⟨#[]⟩).size ≤ 20 := by
  rw [← F.key n hn]
  exact Proofs.YtaokemapkgggoaaDoor.key_le S n
end Go.Proofs.YtaokemapkgggoaaDoor

namespace Go.Proofs.YtaokemapkgggoaaDoor
open Go.RowKit

/-- a frame, of a payload whose bytes are known -/
theorem frame_is (st : Int) (p : ByteArray) (l : List UInt8) (hp : p.data.toList = l) (W : World) (h0 : 0 ≤ st) (h1 : st < 256) (hl : l.length < 1000) (x : ByteArray) (hx : x = str (told st l)) :
    Calls Tryd.prog 16 #[.int .i64 st, .string p] W fun r w' => r = .returned (.string x) ∧ Below W.heap.size W w' := by
  have := keep_frame st p W h0 h1 (by have : p.size = p.data.toList.length := (by rw [Array.length_toList]; rfl); rw [this, hp]; omega)
  rw [hp] at this
  rw [hx]
  exact this
theorem one_str (n : Nat) (b : ByteArray) (l : List UInt8) (hb : b = str l) : (strOfNums [(n : Int)] ++ b).data.toList = UInt8.ofNat n :: l := by
  rw [hb, strOfNums_str, str_append, str_list]
  rfl

end Go.Proofs.YtaokemapkgggoaaDoor
