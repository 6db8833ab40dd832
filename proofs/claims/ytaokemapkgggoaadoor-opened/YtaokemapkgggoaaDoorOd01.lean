import Derived.Test.YtaokemapkgggoaaDoorKb32
namespace Go.Proofs.YtaokemapkgggoaaDoor
open Go.RowKit

theorem hd0_cons (x : UInt8) (l : List UInt8) : hd0 (str (x :: l)) = x.toNat := by
  unfold hd0
  rw [str_list]
  rfl
theorem rest1_cons (x : UInt8) (l : List UInt8) : rest1 (str (x :: l)) = str l := by
  unfold rest1
  apply ByteArray.ext
  apply Array.toList_inj.1
  rw [ByteArray.data_extract, Array.toList_extract, List.extract_eq_take_drop, str_list, str_list, str_size]
  simp

/-- a device with power that will not go, and that waits for nothing -/
structure Up (d : Dv) : Prop where
  off : d.off = false
  inn : d.inn = ⟨#[]⟩
  cut : d.cut < 0
section
variable {d : Dv}
theorem Up.put (U : Up d) (k : Kep) : d.put k = d.wrote k := by
  unfold Dv.put
  exact if_neg (by have := U.cut; omega)
theorem Up.wrote (U : Up d) (k : Kep) : Up (d.wrote k) := ⟨U.off, U.inn, by show (if d.cut < 0 then d.cut else d.cut - 101) < 0; rw [if_pos U.cut]; exact U.cut⟩
/-- the right PIN -/
theorem fed_right (U : Up d) (p : List UInt8) (hp : d.k.pin = str p) (h1 : 1 ≤ p.length) (h2 : p.length ≤ 8) (ht : ¬ d.k.tries = 0) (hn : d.k.num + 2 < 4294967295) :
    ∃ e, fed d (told 1 p) = (told 0 [], e) ∧ Up e ∧ e.unl = true ∧ e.k = ({ d.k with tries := 5, num := d.k.num + 1 + 1 } : Kep) := by
  have hn0 : ¬ (0 ≤ d.cut ∧ d.cut < 101) := by have := U.cut; omega
  have U1 := U.wrote d.k.less
  have U2 := U1.wrote d.k.less.full
  refine ⟨((d.wrote d.k.less).wrote d.k.less.full).open, ?_, ⟨U2.off, U2.inn, U2.cut⟩, rfl, rfl⟩
  refine fed_on 1 p (by omega) (by omega) (by omega) U.off U.inn ?_ U2.off U2.inn
  unfold Dv.commandC
  rw [if_pos rfl]
  unfold Dv.unlockC
  rw [if_neg (by rw [str_size]; omega), if_neg ht, if_neg (by omega), if_neg hn0, if_neg (by rw [hp]; exact fun x => x rfl), if_neg (by omega), if_neg (by have := U1.cut; omega)]
/-- a key is set -/
theorem fed_set (U : Up d) (hu : d.unl = true) (x : UInt8) (hx : x.toNat < 4) (l : List UInt8) (hl : l.length ≤ 20) (hw : d.k.num < 4294967295) :
    fed d (told 3 (x :: l)) = (told 0 [], d.wrote (d.k.put x.toNat (str l))) := by
  have U1 := U.wrote (d.k.put x.toNat (str l))
  refine fed_on 3 (x :: l) (by omega) (by omega) (by simp; omega) U.off U.inn ?_ U1.off U1.inn
  unfold Dv.commandC
  rw [if_neg (by omega), if_pos (.inl rfl)]
  unfold Dv.slotC
  rw [hd0_cons, rest1_cons, if_pos ⟨rfl, hu, by rw [str_size]; simp; omega, by rw [str_size]; omega, by omega⟩, U.put]
end

/-- what stands in a slot behind a set -/
theorem put_key (k : Kep) (n m : Nat) (b : ByteArray) (hn : n < 4) (hm : m < 4) : (k.put n b).key m = if m = n then b else k.key m := by
  rcases (by omega : n = 0 ∨ n = 1 ∨ n = 2 ∨ n = 3) with rfl | rfl | rfl | rfl <;> rcases (by omega : m = 0 ∨ m = 1 ∨ m = 2 ∨ m = 3) with rfl | rfl | rfl | rfl <;> rfl
theorem kput_pin (k : Kep) (n : Nat) (b : ByteArray) : (k.put n b).pin = k.pin := by
  unfold Kep.put
  repeat' split
  all_goals rfl
theorem kput_tries (k : Kep) (n : Nat) (b : ByteArray) : (k.put n b).tries = k.tries := by
  unfold Kep.put
  repeat' split
  all_goals rfl
theorem next_key (k : Kep) (n : Int) (m : Nat) : (k.next n).key m = k.key m := rfl
/-- an unlocked device whose slots have these keys -/
structure Fine (p : List UInt8) (m : Int) (ss : List ByteArray) (d : Dv) : Prop where
  up : Up d
  unl : d.unl = true
  pin : d.k.pin = str p
  tries : d.k.tries = 5
  num : d.k.num ≤ m
  len : ss.length = 4
  key : ∀ n, n < 4 → d.k.key n = ss.getD n ⟨#[]⟩
theorem Fine.set {p : List UInt8} {m : Int} {ss : List ByteArray} {d : Dv} (F : Fine p m ss d) (x : UInt8) (n : Nat) (hx : x.toNat = n) (hn : n < 4) (l : List UInt8) (hl : l.length ≤ 20) (hm : m < 4294967295) :
    ∃ e, fed d (told 3 (x :: l)) = (told 0 [], e) ∧ Fine p (m + 1) (ss.set n (str l)) e := by
  subst hx
  have hnum := F.num
  refine ⟨_, fed_set F.up F.unl x hn l hl (by omega), F.up.wrote _, F.unl, (kput_pin _ _ _).trans F.pin, (kput_tries _ _ _).trans F.tries, by show d.k.num + 1 ≤ _; omega, by rw [List.length_set]; exact F.len, fun j hj => ?_⟩
  show ((d.k.put x.toNat (str l)).next _).key j = _
  rw [next_key, put_key _ _ _ _ hn hj, List.getD_eq_getElem?_getD, List.getElem?_set, F.len]
  by_cases hji : j = x.toNat
  · rw [if_pos hji, if_pos hji.symm, if_pos hn]; rfl
  · rw [if_neg hji, if_neg (fun e => hji e.symm), F.key j hj, List.getD_eq_getElem?_getD]

/-- a device, locked or not, whose slots have these keys -/
structure Kept5 (p : List UInt8) (m : Int) (ss : List ByteArray) (d : Dv) : Prop where
  up : Up d
  pin : d.k.pin = str p
  tries : d.k.tries = 5
  num : d.k.num ≤ m
  len : ss.length = 4
  key : ∀ n, n < 4 → d.k.key n = ss.getD n ⟨#[]⟩
theorem Kept5.right {p : List UInt8} {m : Int} {ss : List ByteArray} {d : Dv} (F : Kept5 p m ss d) (h1 : 1 ≤ p.length) (h2 : p.length ≤ 8) (hm : m + 2 < 4294967295) :
    ∃ e, fed d (told 1 p) = (told 0 [], e) ∧ Fine p (m + 2) ss e := by
  have hn := F.num
  obtain ⟨e, he, U, hu, hk⟩ := fed_right F.up p F.pin h1 h2 (by rw [F.tries]; omega) (by omega)
  exact ⟨e, he, U, hu, by rw [hk]; exact F.pin, by rw [hk], by rw [hk]; show d.k.num + 1 + 1 ≤ _; omega, F.len, fun n hn => by rw [hk]; exact F.key n hn⟩
end Go.Proofs.YtaokemapkgggoaaDoor

namespace Go.Proofs.YtaokemapkgggoaaDoor
open Go.RowKit

/-- a frame, of a payload whose bytes are known -/
theorem frame_is (st : Int) (p : ByteArray) (l : List UInt8) (hp : p.data.toList = l) (W : World) (h0 : 0 ≤ st) (h1 : st < 256) (hl : l.length < 1000) (x : ByteArray) (hx : x = str (told st l)) :
    Calls Tryd.prog 16 #[.int .i64 st, .string p] W fun r w' => r = .returned (.string x) ∧ Below W.heap.size W w' := by
  have := keep_frame st p W h0 h1 (by have : p.size = p.data.toList.length := (by rw [Array.length_toList]; rfl); rw [this, hp]; omega)
  rw [hp] at this
  rw [hx]
  exact this
end Go.Proofs.YtaokemapkgggoaaDoor

namespace Go.Proofs.YtaokemapkgggoaaDoor
open Go.RowKit

theorem wp_normalK {P : Program} {c : Code} {Q : Exit → Act → World → Prop} {a : Act} {w : World} (h : c.wp P (fun e a' w' => e = .normal ∧ Q .normal a' w') a w) : c.wp P Q a w :=
  wp_mono h fun e a' w' k => by
    obtain ⟨rfl, k⟩ := k
    exact k
/-- a region that draws its order, from a world that is a letter -/
theorem wp_region_letter {P : Program} {ops : Array Oper} {Q : Exit → Act → World → Prop} {S : World → Prop} {id : Nat} {a : Act} {w : World} (hm : P.follows .mixedOrders = true) (hS : S w.drew)
    (h : ∀ w0, S w0 → wpAnyH P .any ops Q S ops.size (Array.replicate ops.size false) a w0) : (Code.region id ops true).wp P Q a w :=
  wp_region_held hm (h _ hS)
theorem row_built (w : World) (n : Int) : Row (w.alloc (.cells #[.int .u8 n] 5)) w.heap.size (u8s [n]) 5 := Row.made w (u8s [n]) 5
theorem below_built (w : World) (o : Obj) : Below w.heap.size w (w.alloc o) := (Below.refl _ _).alloc (Nat.le_refl _) _
end Go.Proofs.YtaokemapkgggoaaDoor

namespace Go.Proofs.YtaokemapkgggoaaDoor
open Go.RowKit

theorem keys_next (ks : List ByteArray) (i : Nat) (b : ByteArray) (h : ks[i]? = some b) : keysTo (ks.map fun k => k.data.toList) (i + 1) = keysTo (ks.map fun k => k.data.toList) i ++ keyPart b.data.toList := by
  unfold keysTo
  rw [List.take_add_one, List.getElem?_map, h]
  simp
/-- boxed texts -/
structure BoxAt (w wr : World) (s0 s1 s2 s3 : ByteArray) : Prop where
  row : Row wr w.heap.size [.string s0, .string s1, .string s2, .string s3] 45
  base : Below w.heap.size w wr
theorem BoxAt.next {w wr wr' : World} {s0 s1 s2 s3 : ByteArray} (H : BoxAt w wr s0 s1 s2 s3) (hb : Below wr.heap.size wr wr') : BoxAt w wr' s0 s1 s2 s3 := ⟨H.row.below hb H.row.lt, H.base.trans (hb.mono H.base.size)⟩

set_option linter.unusedSimpArgs false in
set_option maxRecDepth 100000 in
set_option maxHeartbeats 8000000 in
theorem keep_image (num tries : Int) (p s0 s1 s2 s3 : ByteArray) (w : World) (n0 : -9223372036854775808 ≤ num) (n1 : num ≤ 9223372036854775807) (hp : p.size ≤ 8) (h0 : s0.size ≤ 20) (h1 : s1.size ≤ 20) (h2 : s2.size ≤ 20) (h3 : s3.size ≤ 20) :
    Calls Tryd.prog 27 #[.int .i64 num, .int .i64 tries, .string p, .agg #[.string s0, .string s1, .string s2, .string s3]] w fun r w' => r = .returned (.string (str (Kep.img ⟨num, tries, p, s0, s1, s2, s3⟩))) ∧ Below w.heap.size w w' := by
  have q1 := tdiv_bd num 16777216 (by omega) n0 n1
  have q2 := tdiv_bd num 65536 (by omega) n0 n1
  have q3 := tdiv_bd num 256 (by omega) n0 n1
  have hw8 : ∀ x : Int, IntKind.u8.wrap x = x % 256 := u8_wrap
  have hz6 := size6
  have hz1 := size1
  have hpz : 6 + p.size ≤ 9223372036854775807 := by omega
  have hcv : ∀ (W : World) (o : Obj) a b c d e f, (convert 28 9 (.slice (some ⟨W.heap.size + 1, 0, none⟩) 6 6)).run Tryd.prog ((W.alloc o).alloc (.cells #[.int .u8 a, .int .u8 b, .int .u8 c, .int .u8 d, .int .u8 e, .int .u8 f] 5)) = .ok (.string (strOfNums [a, b, c, d, e, f])) ((W.alloc o).alloc (.cells #[.int .u8 a, .int .u8 b, .int .u8 c, .int .u8 d, .int .u8 e, .int .u8 f] 5)) := fun W o a b c d e f => conv6 (W.alloc o) a b c d e f (W.heap.size + 1) (World.size_alloc _ _).symm
  go_enter Tryd.func27, Tryd.ntmps27
  go_wp2
  have hZ0 : (⟨#[0]⟩ : ByteArray).size = 1 := rfl
  have HB0 : BoxAt w ((w.alloc (.cells #[.string s0, .string s1, .string s2, .string s3] 45)).alloc (.cells #[.int .u8 (num.tdiv 16777216 % 256), .int .u8 ((num.tdiv 65536).tmod 256 % 256), .int .u8 ((num.tdiv 256).tmod 256 % 256), .int .u8 (num.tmod 256 % 256), .int .u8 (tries % 256), .int .u8 ((p.size : Int) % 256)] 5)) s0 s1 s2 s3 := ⟨(Row.made w [.string s0, .string s1, .string s2, .string s3] _).alloc _, ((Below.refl _ _).alloc (Nat.le_refl _) _).alloc (by simp) _⟩
  obtain ⟨b6, HB6⟩ : ∃ b6, Hid (b6 = (strOfNums [num.tdiv 16777216 % 256, (num.tdiv 65536).tmod 256 % 256, (num.tdiv 256).tmod 256 % 256, num.tmod 256 % 256, tries % 256, (p.size : Int) % 256] ++ p).data.toList) := ⟨_, rfl⟩
  have HHD : Hid (b6 ++ List.replicate (8 - p.size) 0 = Kep.head ⟨num, tries, p, s0, s1, s2, s3⟩) := by
    show _ = _
    rw [HB6.out, ByteArray.data_append, Array.toList_append, toBytes_str]
    have hz : p.data.toList.length = p.size := by rw [Array.length_toList]; rfl
    simp only [toBytes, List.map_cons, List.map_nil, Kep.head, padTo, hz, List.append_assoc]
    rfl
  have hsz0 : Hid ((strOfNums [num.tdiv 16777216 % 256, (num.tdiv 65536).tmod 256 % 256, (num.tdiv 256).tmod 256 % 256, num.tmod 256 % 256, tries % 256, (p.size : Int) % 256] ++ p).size = 6 + p.size) := by show _ = _; rw [ByteArray.size_append, size6]
  go_loopw [9] (fun tv wr => ∃ (j : Nat) (cur : ByteArray), tv = .string cur ∧ cur.data.toList = b6 ++ List.replicate j 0 ∧ cur.size = 6 + p.size + j ∧ p.size + j ≤ 8 ∧ BoxAt w wr s0 s1 s2 s3) (fun tv _ => 14 - strLen tv)
  case atStart => exact ⟨0, _, rfl, by rw [List.replicate_zero, List.append_nil]; exact HB6.out.symm, by rw [hsz0.out]; rfl, by omega, HB0⟩
  case round =>
    clear HB0 hcv
    obtain ⟨j, cur, rfl, hcur, hcz, hj8, HH⟩ := hrel
    have HCU : Hid _ := hcur
    clear hcur
    by_cases hlt : p.size + j < 8
    · have q5 : (cur.size : Int) < 14 := by omega
      have q6 : cur.size + 1 ≤ 9223372036854775807 := by omega
      go_wp2
      refine ⟨⟨j + 1, _, rfl, ?_, ?_, by omega, HH⟩, ?_⟩
      · rw [ByteArray.data_append, Array.toList_append, HCU.out, List.append_assoc, List.replicate_succ']
      · rw [ByteArray.size_append, hcz, hZ0]
        omega
      · rw [strLen_string, strLen_string, ByteArray.size_append, hZ0]
        omega
    · have q5 : ¬ (cur.size : Int) < 14 := by omega
      obtain ⟨hd, HDD⟩ : ∃ hd, Hid (hd = Kep.head ⟨num, tries, p, s0, s1, s2, s3⟩) := ⟨_, rfl⟩
      have HC0 : Hid (cur.data.toList = hd) := by
        show _ = _
        rw [HCU.out, HDD.out, ← HHD.out, show j = 8 - p.size by omega]
      have hcz2 : cur.size = 14 := by omega
      clear HCU hcz hj8 hlt HHD hsz0 HB6
      go_wp2
      clear q5
      go_loopw [9, 10] (fun tv c wr => ∃ (i : Nat) (cur : ByteArray), i ≤ 4 ∧ c = .int .i64 i ∧ tv = .string cur ∧ cur.data.toList = hd ++ keysTo ([s0, s1, s2, s3].map fun k => k.data.toList) i ∧ cur.size = 14 + 21 * i ∧ BoxAt w wr s0 s1 s2 s3) (fun _ c _ => 4 - (intOf c).toNat)
      case atStart => exact ⟨0, cur, by omega, rfl, rfl, by simp [keysTo, HC0.out], by omega, HH⟩
      case round =>
        clear HH HC0 hcz2
        obtain ⟨i, cur, hi4, rfl, rfl, hcur, hcz, HH⟩ := hrel
        have HCU : Hid _ := hcur
        clear hcur
        by_cases hlt : i < 4
        · obtain ⟨ki, hki, hkz⟩ : ∃ ki : ByteArray, ([s0, s1, s2, s3] : List ByteArray)[i]? = some ki ∧ ki.size ≤ 20 := by
            rcases (by omega : i = 0 ∨ i = 1 ∨ i = 2 ∨ i = 3) with rfl | rfl | rfl | rfl
            · exact ⟨s0, rfl, h0⟩
            · exact ⟨s1, rfl, h1⟩
            · exact ⟨s2, rfl, h2⟩
            · exact ⟨s3, rfl, h3⟩
          have hce : ∀ X, BoxAt w X s0 s1 s2 s3 → X.cell? ⟨w.heap.size, i, none⟩ = some (.string ki) := fun X h => by
            rw [h.row.cell]
            rcases (by omega : i = 0 ∨ i = 1 ∨ i = 2 ∨ i = 3) with rfl | rfl | rfl | rfl <;> simpa using hki
          have HKI : Hid _ := keys_next [s0, s1, s2, s3] i ki hki
          clear hki
          have q5 : (i : Int) < 4 := by omega
          have i0 : (0 : Int) ≤ i := by omega
          have hin : (i : Int).toNat = i := by omega
          have q6 : (cur.size : Int) + 21 ≤ 9223372036854775807 := by omega
          have hs1 : cur.size + 1 ≤ 9223372036854775807 := by omega
          have hs2 : cur.size + 1 + ki.size ≤ 9223372036854775807 := by omega
          have HCZ : Hid (cur.size = 14 + 21 * i) := hcz
          clear hcz
          have hkS : ∀ X X' : World, BoxAt w X s0 s1 s2 s3 → Below X.heap.size X X' → BoxAt w X' s0 s1 s2 s3 := fun X X' h hb => h.next hb
          have hS0 : BoxAt w wr.drew s0 s1 s2 s3 := HH.next ((Below.refl _ _).drew)
          go_wp2
          refine wp_normalK ?_
          refine wp_region_letter (S := fun X => BoxAt w X s0 s1 s2 s3) (by kernel_rfl) hS0 ?_
          intro w0 hS_w0
          refine wpAnyH_take (i := 0) (v := .string cur) rfl (by kernel_rfl) (by kernel_rfl) (by kernel_rfl) (fun _ _ _ h => no_panic h.1) (yields_of rfl (fun w' hw' => by clear hw'; go_simp)) hS_w0 ?_
          try simp only [List.getElem_toArray, List.getElem_cons_succ, List.getElem_cons_zero, Act.put, List.setIfInBounds_toArray, List.set_cons_succ, List.set_cons_zero]
          refine wpAnyH_take (i := 1) (v := .int .i64 i) rfl (by kernel_rfl) (by kernel_rfl) (by kernel_rfl) (fun _ _ _ h => no_panic h.1) (yields_of rfl (fun w' hw' => by clear hw'; go_simp)) hS_w0 ?_
          try simp only [List.getElem_toArray, List.getElem_cons_succ, List.getElem_cons_zero, Act.put, List.setIfInBounds_toArray, List.set_cons_succ, List.set_cons_zero]
          refine wpAnyH_take (i := 2) (v := .pointer (some ⟨w.heap.size, i, none⟩)) rfl (by kernel_rfl) (by kernel_rfl) (by kernel_rfl) (fun _ _ _ h => no_panic h.1) (yields_of rfl (fun w' hw' => by clear hw'; go_simp)) hS_w0 ?_
          try simp only [List.getElem_toArray, List.getElem_cons_succ, List.getElem_cons_zero, Act.put, List.setIfInBounds_toArray, List.set_cons_succ, List.set_cons_zero]
          refine wpAnyH_take (i := 3) (v := .string ki) rfl (by kernel_rfl) (by kernel_rfl) (by kernel_rfl) (fun _ _ _ h => no_panic h.1) (yields_of rfl (fun w' hw' => by have y1 := hce w' hw'; clear hw'; go_simp)) hS_w0 ?_
          try simp only [List.getElem_toArray, List.getElem_cons_succ, List.getElem_cons_zero, Act.put, List.setIfInBounds_toArray, List.set_cons_succ, List.set_cons_zero]
          refine wpAnyH_take (i := 4) (v := .int .i64 ki.size) rfl (by kernel_rfl) (by kernel_rfl) (by kernel_rfl) (fun _ _ _ h => no_panic h.1) (yields_of rfl (fun w' hw' => by clear hw'; go_simp)) hS_w0 ?_
          try simp only [List.getElem_toArray, List.getElem_cons_succ, List.getElem_cons_zero, Act.put, List.setIfInBounds_toArray, List.set_cons_succ, List.set_cons_zero]
          refine wpAnyH_take (i := 5) (v := .int .u8 ((ki.size : Int) % 256)) rfl (by kernel_rfl) (by kernel_rfl) (by kernel_rfl) (fun _ _ _ h => no_panic h.1) (yields_of rfl (fun w' hw' => by clear hw'; go_simp)) hS_w0 ?_
          try simp only [List.getElem_toArray, List.getElem_cons_succ, List.getElem_cons_zero, Act.put, List.setIfInBounds_toArray, List.set_cons_succ, List.set_cons_zero]
          refine wpAnyH_take (i := 9) (v := .int .i64 i) rfl (by kernel_rfl) (by kernel_rfl) (by kernel_rfl) (fun _ _ _ h => no_panic h.1) (yields_of rfl (fun w' hw' => by clear hw'; go_simp)) hS_w0 ?_
          try simp only [List.getElem_toArray, List.getElem_cons_succ, List.getElem_cons_zero, Act.put, List.setIfInBounds_toArray, List.set_cons_succ, List.set_cons_zero]
          refine wpAnyH_take (i := 10) (v := .pointer (some ⟨w.heap.size, i, none⟩)) rfl (by kernel_rfl) (by kernel_rfl) (by kernel_rfl) (fun _ _ _ h => no_panic h.1) (yields_of rfl (fun w' hw' => by clear hw'; go_simp)) hS_w0 ?_
          try simp only [List.getElem_toArray, List.getElem_cons_succ, List.getElem_cons_zero, Act.put, List.setIfInBounds_toArray, List.set_cons_succ, List.set_cons_zero]
          refine wpAnyH_take (i := 11) (v := .string ki) rfl (by kernel_rfl) (by kernel_rfl) (by kernel_rfl) (fun _ _ _ h => no_panic h.1) (yields_of rfl (fun w' hw' => by have y1 := hce w' hw'; clear hw'; go_simp)) hS_w0 ?_
          try simp only [List.getElem_toArray, List.getElem_cons_succ, List.getElem_cons_zero, Act.put, List.setIfInBounds_toArray, List.set_cons_succ, List.set_cons_zero]
          refine wpAnyH_ready (rs := [6]) (by kernel_rfl) (by simp) (AllReadyH.cons (i := 6) rfl (fun K hK => ?_) AllReadyH.nil)
          have hS_x1 := hkS _ _ hS_w0 (below_built w0 (.cells #[.int .u8 ((ki.size : Int) % 256)] 5))
          have r6_x1 := row_built w0 ((ki.size : Int) % 256)
          refine step_of rfl (wp_val (v := .slice (some ⟨w0.heap.size, 0, none⟩) 1 1) (w' := w0.alloc (.cells #[.int .u8 ((ki.size : Int) % 256)] 5)) (by go_simp) (hK.out _ _ hS_x1 (fun _ => ?_)))
          clear hK K
          try simp only [List.getElem_toArray, List.getElem_cons_succ, List.getElem_cons_zero, Act.put, List.setIfInBounds_toArray, List.set_cons_succ, List.set_cons_zero]
          generalize w0.alloc (.cells #[.int .u8 ((ki.size : Int) % 256)] 5) = x1 at *
          refine wpAnyH_ready (rs := [7]) (by kernel_rfl) (by simp) (AllReadyH.cons (i := 7) rfl (fun K hK => ?_) AllReadyH.nil)
          have hcv := run_convR x1 (w0.heap.size) [((ki.size : Int) % 256)] 1 1 rfl r6_x1.range
          refine step_of rfl (wp_val (v := .string (strOfNums [(ki.size : Int) % 256])) (w' := x1) (by go_simp) (hK.out _ _ hS_x1 (fun _ => ?_)))
          clear hK K hcv
          try simp only [List.getElem_toArray, List.getElem_cons_succ, List.getElem_cons_zero, Act.put, List.setIfInBounds_toArray, List.set_cons_succ, List.set_cons_zero]
          refine wpAnyH_take (i := 8) (v := .string (cur ++ strOfNums [(ki.size : Int) % 256])) rfl (by kernel_rfl) (by kernel_rfl) (by kernel_rfl) (fun _ _ _ h => no_panic h.1) (yields_of rfl (fun w' hw' => by clear hw'; go_simp)) hS_x1 ?_
          try simp only [List.getElem_toArray, List.getElem_cons_succ, List.getElem_cons_zero, Act.put, List.setIfInBounds_toArray, List.set_cons_succ, List.set_cons_zero]
          refine wpAnyH_take (i := 12) (v := .string (cur ++ strOfNums [(ki.size : Int) % 256] ++ ki)) rfl (by kernel_rfl) (by kernel_rfl) (by kernel_rfl) (fun _ _ _ h => no_panic h.1) (yields_of rfl (fun w' hw' => by clear hw'; go_simp)) hS_x1 ?_
          try simp only [List.getElem_toArray, List.getElem_cons_succ, List.getElem_cons_zero, Act.put, List.setIfInBounds_toArray, List.set_cons_succ, List.set_cons_zero]
          refine wpAnyH_take (i := 13) (v := .string (cur ++ strOfNums [(ki.size : Int) % 256] ++ ki)) rfl (by kernel_rfl) (by kernel_rfl) (by kernel_rfl) (fun _ _ _ h => no_panic h.1) (yields_of rfl (fun w' hw' => by clear hw'; go_simp)) hS_x1 ?_
          try simp only [List.getElem_toArray, List.getElem_cons_succ, List.getElem_cons_zero, Act.put, List.setIfInBounds_toArray, List.set_cons_succ, List.set_cons_zero]
          refine wpAnyH_done (by kernel_rfl) ⟨rfl, ?_⟩ _
          clear hS0 hkS
          have HH2 : BoxAt w x1 s0 s1 s2 s3 := hS_x1
          obtain ⟨c2, HC2⟩ : ∃ c2, Hid (c2 = cur ++ strOfNums [(ki.size : Int) % 256] ++ ki) := ⟨_, rfl⟩
          rw [← HC2.out]
          have HC2Z : Hid (c2.size = 15 + 21 * i + ki.size) := by show _ = _; have hcz := HCZ.out; rw [HC2.out, ByteArray.size_append, ByteArray.size_append, size1]; omega
          go_wp2
          go_loopw [9] (fun tv wr2 => ∃ (j : Nat) (cr : ByteArray), tv = .string cr ∧ cr.data.toList = c2.data.toList ++ List.replicate j 0 ∧ cr.size = 15 + 21 * i + ki.size + j ∧ ki.size + j ≤ 20 ∧ BoxAt w wr2 s0 s1 s2 s3) (fun tv _ => 35 + 21 * i - strLen tv)
          case atStart => exact ⟨0, c2, rfl, by simp, HC2Z.out, by omega, HH2⟩
          case round =>
            obtain ⟨j, cr, rfl, hcr, hrz, hj, HH3⟩ := hrel
            have HCR : Hid _ := hcr
            clear hcr
            have HRZ : Hid (cr.size = 15 + 21 * i + ki.size + j) := hrz
            clear hrz
            by_cases hl2 : ki.size + j < 20
            · have q8 : (cr.size : Int) < (cur.size : Int) + 21 := by have h1 := HCZ.out; have h2 := HRZ.out; omega
              have q9 : cr.size + 1 ≤ 9223372036854775807 := by have h2 := HRZ.out; omega
              go_wp2
              refine ⟨⟨j + 1, _, rfl, ?_, ?_, by omega, HH3⟩, ?_⟩
              · rw [ByteArray.data_append, Array.toList_append, HCR.out, List.append_assoc, List.replicate_succ']
              · rw [ByteArray.size_append, HRZ.out, hZ0]
                omega
              · rw [strLen_string, strLen_string, ByteArray.size_append, hZ0]
                have h2 := HRZ.out
                omega
            · have q8 : ¬ (cr.size : Int) < (cur.size : Int) + 21 := by have h1 := HCZ.out; have h2 := HRZ.out; omega
              have HE : Hid (cr.data.toList = hd ++ keysTo ([s0, s1, s2, s3].map fun k => k.data.toList) (i + 1)) := by
                show _ = _
                have hz : ki.data.toList.length = ki.size := by rw [Array.length_toList]; rfl
                rw [HCR.out, HC2.out, ByteArray.data_append, Array.toList_append, ByteArray.data_append, Array.toList_append, HCU.out, HKI.out, toBytes_str, show j = 20 - ki.size by omega]
                simp only [keyPart, padTo, hz, List.append_assoc]
                rfl
              have HRZ2 : Hid (cr.size = 14 + 21 * (i + 1)) := by show _ = _; have h2 := HRZ.out; omega
              go_wp2
              exact ⟨⟨i + 1, cr, by omega, by go_num, rfl, HE.out, HRZ2.out, HH3⟩, by simp [intOf]; omega⟩
        · have q5 : ¬ (i : Int) < 4 := by omega
          have hi : i = 4 := by omega
          have HBD : Hid (cur.data.toList = Kep.body ⟨num, tries, p, s0, s1, s2, s3⟩) := by
            show _ = _
            rw [HCU.out, HDD.out, hi]
            simp [Kep.body, keysTo]
          clear hi HCU
          have hcl : Hid (cur.size = cur.data.toList.length) := by show _ = _; rw [Array.length_toList]; rfl
          have hB0 : Below w.heap.size w wr := HH.base
          clear HH
          go_wp2
          go_loopw [12, 13] (fun sv c ws => ∃ j : Nat, j ≤ cur.size ∧ c = .int .i64 j ∧ sv = .int .i64 (1 + sumB (cur.data.toList.take j)) ∧ Below w.heap.size w ws) (fun _ c _ => cur.size - (intOf c).toNat)
          case atStart => exact ⟨0, by omega, rfl, by simp [sumB], hB0⟩
          case round =>
            clear hB0
            obtain ⟨j, hj, rfl, rfl, hB⟩ := hrel
            have hS0 := sumB_nonneg (cur.data.toList.take j)
            have hS1 := sumB_le (cur.data.toList.take j)
            have hlen : (cur.data.toList.take j).length ≤ cur.size := by rw [List.length_take, ← hcl.out]; omega
            by_cases hlt2 : j < cur.size
            · have HS : Hid _ := sumB_take_succ cur.data.toList j (by rw [← hcl.out]; exact hlt2)
              have hb := byte_at hlt2
              have hbd := getD_isB (bytesI_B cur.data.toList) j
              obtain ⟨hb0, hb1'⟩ := hbd
              generalize (bytesI cur.data.toList).getD j 0 = x at *
              generalize sumB (cur.data.toList.take j) = sm at *
              have hj' : (j : Int) < cur.size := by omega
              go_wp2
              refine ⟨⟨j + 1, by omega, by go_num, ?_, hB⟩, by simp [intOf]; omega⟩
              rw [HS.out, Int.add_assoc]
            · have hj' : ¬ (j : Int) < cur.size := by omega
              have e : cur.data.toList.take j = cur.data.toList := List.take_of_length_le (by rw [← hcl.out]; omega)
              rw [e] at hS0 hS1
              rw [e]
              rw [← hcl.out] at hS1
              have HF : Hid (str (Kep.img ⟨num, tries, p, s0, s1, s2, s3⟩) = ⟨#[167]⟩ ++ cur ++ strOfNums [(1 + sumB cur.data.toList) % 256]) := by
                show _ = _
                rw [img_end, Kep.img, closed, HBD.out]
                rfl
              generalize sumB cur.data.toList = sm at *
              have hm : (1 + sm).tmod 256 = (1 + sm) % 256 := Int.tmod_eq_emod_of_nonneg (by omega)
              have hcv := fun W a => conv1 W a W.heap.size rfl
              have hA7 : (⟨#[167]⟩ : ByteArray).size = 1 := rfl
              have hs3 : 1 + cur.size + 1 ≤ 9223372036854775807 := by omega
              have m0 : 0 ≤ (1 + sm) % 256 := by omega
              have m1 : (1 + sm) % 256 < 256 := by omega
              go_wp2
              go_ret
              exact ⟨ret_bytes HF.out.symm, hB.alloc hB.size _⟩
end Go.Proofs.YtaokemapkgggoaaDoor
