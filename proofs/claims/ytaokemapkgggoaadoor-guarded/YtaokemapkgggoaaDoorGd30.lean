import Derived.Test.YtaokemapkgggoaaDoorGd27
import Derived.Test.YtaokemapkgggoaaDoorGd19
import Derived.Test.YtaokemapkgggoaaDoorGd29
import Derived.Test.YtaokemapkgggoaaDoorGd09
namespace Go.Proofs.YtaokemapkgggoaaDoor
open Go.RowKit

theorem half_len {d : Dv} (ok : d.sound) : (Bs d.h0 ++ Bs d.h1).length = 200 := by rw [List.length_append, Bs_len, Bs_len, ok.s0, ok.s1]
set_option maxRecDepth 100000 in
set_option maxHeartbeats 1000000 in
theorem prog_Cut_row (w : World) (g : Nat) (n : Int) (f : List UInt8) (q : Pw) (u : Bool) (c : ByteArray) (hR : Row w g (dcells f q u c) 81) (hl : f.length = 200) (hn : 0 ≤ n) :
    Calls Tryd.prog 24 #[.pointer (some ⟨g, 0, none⟩), .int .i64 n] w fun r w' => r = .returned (.int .i64 0) ∧ Row w' g (dcells f ⟨q.gone, true, n⟩ u c) 81 ∧ w.grownBy w' (some g) := by
  have c1 : w.cell? ⟨g, 201, none⟩ = some (.bool q.ending) := by rw [hR.cell]; exact dcells_at f q u c 1 hl
  have c2 : w.cell? ⟨g, 202, none⟩ = some (.int .i64 q.left) := by rw [hR.cell]; exact dcells_at f q u c 2 hl
  have f1 := hR.frozen 201
  have f2 := hR.frozen 202
  have hn' : ¬ n < 0 := by omega
  have e1 : (dcells f q u c).set 201 (.bool true) = dcells f ⟨q.gone, true, q.left⟩ u c := dcells_put f q u c 1 _ hl
  have e2 : (dcells f ⟨q.gone, true, q.left⟩ u c).set 202 (.int .i64 n) = dcells f ⟨q.gone, true, n⟩ u c := dcells_put f ⟨q.gone, true, q.left⟩ u c 2 _ hl
  have HF : Hid (Row ((w.setCell ⟨g, 201, none⟩ (.bool true)).setCell ⟨g, 202, none⟩ (.int .i64 n)) g (dcells f ⟨q.gone, true, n⟩ u c) 81) := by
    show Row _ _ _ _
    have := (hR.setCell 201 (.bool true)).setCell 202 (.int .i64 n)
    rwa [e1, e2] at this
  clear e1 e2
  go_enter Tryd.func24, Tryd.ntmps24
  go_wp2
  go_ret
  exact ⟨rfl, HF.out, grown_set (grown_set (World.grownBy.refl _ _) _ _) _ _⟩

theorem prog_Cut_yes (w : World) (g : Nat) (d : Dv) (n : Int) (h : PdAny w g d) (ok : d.sound) (hn : 0 ≤ n) :
    Calls Tryd.prog 24 #[.pointer (some ⟨g, 0, none⟩), .int .i64 n] w fun r w' => r = .returned (.int .i64 0) ∧ PdAny w' g { d with cut := n } ∧ w.grownBy w' (some g) := by
  rcases h with ⟨on, h⟩ | ⟨off, a, b, h⟩
  · refine (prog_Cut_row w g n _ _ _ _ h (half_len ok) hn).mono ?_
    rintro r w' ⟨hr, hd, hg⟩
    refine ⟨hr, .inl ⟨on, ?_⟩, hg⟩
    unfold PdAt
    have e : (⟨d.pw.gone, true, n⟩ : Pw) = Dv.pw { d with cut := n } := by
      unfold Dv.pw
      simp [hn]
    rw [e] at hd
    exact hd
  · refine (prog_Cut_row w g n _ _ _ _ h (half_len ok) hn).mono ?_
    rintro r w' ⟨hr, hd, hg⟩
    exact ⟨hr, .inr ⟨off, _, _, hd⟩, hg⟩

/-- what is there when a device is booted -/
def Dv.booted (d : Dv) : Dv := { d with unl := false, inn := ⟨#[]⟩, cut := -1, off := false }
theorem Dv.stands.booted {d : Dv} (h : d.stands) : d.bootC = (d.booted, 0) := h.boot
set_option maxRecDepth 100000 in
set_option maxHeartbeats 1000000 in
theorem prog_Boot (w : World) (g : Nat) (d : Dv) (h : PdAny w g d) (ok : d.sound) :
    Calls Tryd.prog 25 #[.pointer (some ⟨g, 0, none⟩)] w fun r w' => r = .returned (.int .i64 0) ∧ PdAny w' g d.booted ∧ w.grownBy w' (some g) := by
  obtain ⟨q, u, c, h⟩ := h.cells
  have hrs := prog_restart w g _ q .none u c h (half_len ok)
  go_enter Tryd.func25, Tryd.ntmps25
  go_wp2_with (go_at_call 39; refine hrs.mono ?_; rintro _ w1 ⟨rfl, hr1, hg1⟩)
  go_ret
  exact ⟨rfl, .inl ⟨rfl, hr1⟩, hg1⟩

end Go.Proofs.YtaokemapkgggoaaDoor

namespace Go.Proofs.YtaokemapkgggoaaDoor
open Go.RowKit

theorem told_frame (kind : Nat) (p : List UInt8) : told kind p = frameB kind p := rfl
theorem withIn_self {d : Dv} (h : d.inn = ⟨#[]⟩) : d.withIn [] = d := by
  obtain ⟨sm, h0, h1, k, wh, unl, off, cut, inn⟩ := d
  obtain rfl : inn = ⟨#[]⟩ := h
  rfl
/-- all that is fed, at once -/
def fed (d : Dv) (l : List UInt8) : List UInt8 × Dv := feedC ((d.inn ++ str l).size + 1) d (d.inn ++ str l).data.toList
theorem empty_app (l : List UInt8) : ((⟨#[]⟩ : ByteArray) ++ str l) = str l := by
  apply ByteArray.ext
  rw [ByteArray.data_append]
  simp
theorem fed_frame {d : Dv} (kind : Nat) (p : List UInt8) (hk : kind < 256) (hp : p.length ≤ 48) (ho : d.off = false) (hi : d.inn = ⟨#[]⟩) :
    fed d (told kind p) = ((if (d.commandC kind (str p)).1.off = true then [] else told (d.commandC kind (str p)).2.1 (d.commandC kind (str p)).2.2), (d.commandC kind (str p)).1.withIn []) := by
  unfold fed
  rw [hi, empty_app, str_list, str_size, told_frame, frameB_len]
  exact feedC_frame (p.length + 3) d kind p hk hp ho _ (by rw [withIn_self hi])
/-- a device of the program's, made behind w0 -/
structure KdAt (w0 w : World) (g : Nat) (d : Dv) : Prop where
  pd : PdAny w g d
  ok : d.sound
  st : d.stands
  inn : d.inn.size < 52
  low : w0.heap.size ≤ g
  base : Below w0.heap.size w0 w
theorem keep_grown {w0 w w' : World} {g : Nat} (h : Below w0.heap.size w0 w) (hg : w.grownBy w' (some g)) (hl : w0.heap.size ≤ g) : Below w0.heap.size w0 w' :=
  ⟨hg.os.trans h.os, hg.tape.trans h.tape, hg.output.trans h.output, Nat.le_trans h.size hg.size, fun i hi => (hg.block i (by have := h.size; omega) (fun e => by cases e; omega)).trans (h.block i hi)⟩
section
variable {w0 w w' : World} {g j : Nat} {d : Dv}
theorem KdAt.next (K : KdAt w0 w g d) (hb : Below w.heap.size w w') : KdAt w0 w' g d := ⟨K.pd.below hb K.pd.lt, K.ok, K.st, K.inn, K.low, K.base.trans (hb.mono K.base.size)⟩
theorem KdAt.fed (K : KdAt w0 w g d) (l : List UInt8) : (fed d l).2.sound ∧ (fed d l).2.stands ∧ (fed d l).2.inn.size < 52 := by
  have := feedC_good ((d.inn ++ str l).size + 1) d (d.inn ++ str l).data.toList (by rw [Array.length_toList]; exact Nat.lt_succ_self _) K.ok K.st
  exact ⟨this.1, this.2.1, this.2.2.2⟩
/-- Feed, of a device that was made behind w0 -/
theorem keep_Feed (G : Glob w0) (K : KdAt w0 w g d) (l : List UInt8) (hs : l.length < 1900000) :
    Calls Tryd.prog 19 #[.pointer (some ⟨g, 0, none⟩), .string (str l)] w fun r w' => r = .returned (.string (str (fed d l).1)) ∧ KdAt w0 w' g (fed d l).2 ∧ w.grownBy w' (some g) := by
  have hin := K.inn
  obtain ⟨f1, f2, f3⟩ := K.fed l
  refine (prog_Feed w g d (str l) K.pd K.st K.ok (fun w' h => G.below (keep_grown K.base h K.low) (Nat.le_refl _)) (by rw [str_size]; omega)).mono ?_
  rintro r w' ⟨hr, hd, hg⟩
  exact ⟨hr, ⟨hd, f1, f2, f3, K.low, keep_grown K.base hg K.low⟩, hg⟩
theorem keep_Flash (K : KdAt w0 w g d) :
    Calls Tryd.prog 21 #[.pointer (some ⟨g, 0, none⟩)] w fun r w' => r = .returned (.string (d.h0 ++ d.h1)) ∧ KdAt w0 w' g d ∧ Below w.heap.size w w' :=
  (prog_Flash w g d K.pd K.ok).mono fun _ _ h => ⟨h.1, K.next h.2, h.2⟩
theorem keep_Cut (K : KdAt w0 w g d) (n : Nat) (hn : n ≤ 100000) :
    Calls Tryd.prog 24 #[.pointer (some ⟨g, 0, none⟩), .int .i64 n] w fun r w' => r = .returned (.int .i64 0) ∧ KdAt w0 w' g { d with cut := n } ∧ w.grownBy w' (some g) := by
  refine (prog_Cut_yes w g d n K.pd K.ok (by omega)).mono ?_
  rintro r w' ⟨hr, hd, hg⟩
  exact ⟨hr, ⟨hd, ⟨K.ok.n0, K.ok.n1, K.ok.t0, K.ok.t1, K.ok.p0, K.ok.p1, K.ok.k0, K.ok.k1, K.ok.k2, K.ok.k3, K.ok.wh, by show (n : Int) ≤ _; omega, K.ok.s0, K.ok.s1⟩, K.st.setCut n, K.inn, K.low, keep_grown K.base hg K.low⟩, hg⟩
theorem keep_Boot (K : KdAt w0 w g d) :
    Calls Tryd.prog 25 #[.pointer (some ⟨g, 0, none⟩)] w fun r w' => r = .returned (.int .i64 0) ∧ KdAt w0 w' g d.booted ∧ w.grownBy w' (some g) := by
  refine (prog_Boot w g d K.pd K.ok).mono ?_
  rintro r w' ⟨hr, hd, hg⟩
  exact ⟨hr, ⟨hd, ⟨K.ok.n0, K.ok.n1, K.ok.t0, K.ok.t1, K.ok.p0, K.ok.p1, K.ok.k0, K.ok.k1, K.ok.k2, K.ok.k3, K.ok.wh, by show (-1 : Int) ≤ _; omega, K.ok.s0, K.ok.s1⟩, ⟨K.st.wh, K.st.right, K.st.same, K.st.oth⟩, by show (0 : Nat) < 52; omega, K.low, keep_grown K.base hg K.low⟩, hg⟩
end
end Go.Proofs.YtaokemapkgggoaaDoor

namespace Go.Proofs.YtaokemapkgggoaaDoor
open Go.RowKit

/-- the document's example's device, step by step -/
def aw0 : Dv := Dv.fresh 0 (str [49, 50, 51, 52])
def aw1 := feedC 5 aw0 [165, 0, 7, 8]
def aw2 := feedC 9 aw1.2 [165, 4, 1, 49, 50, 51, 52, 208]
def aw3 := feedC 6 aw2.2 (told 1 [48])
def aw4 := feedC 9 { aw3.2 with cut := 50 } (told 1 [49, 50, 51, 52])
def aw6 := feedC 5 aw4.2.booted (told 7 [])
def aw7 := feedC 6 { aw6.2 with cut := 101 } (told 1 [48])
theorem awake1 : aw1.1 = [165, 3, 0, 0, 5, 0, 9] ∧ aw1.2.inn.data.toList = [] := by decide +kernel
theorem awake2 : aw2.1 = [165, 0, 0, 1] ∧ aw2.2.inn.data.toList = [] := by decide +kernel
theorem awake2n : (Bs aw2.2.h0 ++ Bs aw2.2.h1).getD 4 0 = 3 ∧ (Bs aw2.2.h0 ++ Bs aw2.2.h1).getD 104 0 = 2 ∧ (Bs aw2.2.h0 ++ Bs aw2.2.h1).length = 200 := by decide +kernel
theorem awake3 : aw3.1 = [165, 1, 3, 4, 9] ∧ aw3.2.inn.data.toList = [] := by decide +kernel
theorem awake4 : aw4.1 = [] := by decide +kernel
theorem awake6 : aw6.1 = told 0 [0, 4, 0] ∧ aw6.2.inn.data.toList = [] := by decide +kernel
theorem awake7 : aw7.1 = told 3 [3] := by decide +kernel
theorem empty_of_list {b : ByteArray} (h : b.data.toList = []) : b = ⟨#[]⟩ := ByteArray.ext (Array.toList_inj.1 (by rw [h]))
theorem fed_empty {d : Dv} {l : List UInt8} {n : Nat} (h : d.inn = ⟨#[]⟩) (hn : n = l.length + 1) : fed d l = feedC n d l := by
  unfold fed
  rw [h, empty_app, str_list, str_size, hn]
theorem getD_bytes {b : ByteArray} {l : List UInt8} {i : Nat} {x : UInt8} (hb : b.data.toList = l) (h : l.getD i 0 = x) (hi : i < l.length) : (bytesI b.data.toList).getD i 0 = x.toNat := by
  rw [hb]
  unfold bytesI
  rw [List.getD_eq_getElem?_getD, List.getElem?_map, List.getElem?_eq_getElem hi]
  rw [List.getD_eq_getElem?_getD, List.getElem?_eq_getElem hi] at h
  simp only [Option.map_some, Option.getD_some] at h ⊢
  rw [h]
theorem fed_of {d : Dv} {l r : List UInt8} {n : Nat} {e : List UInt8 × Dv} (h : d.inn = ⟨#[]⟩) (hn : n = l.length + 1) (he : feedC n d l = e) (hr : e.1 = r) : fed d l = (r, e.2) := by
  rw [fed_empty h hn, he, ← hr]
theorem aw1_eq : feedC 5 aw0 [165, 0, 7, 8] = aw1 := rfl
theorem aw2_eq : feedC 9 aw1.2 [165, 4, 1, 49, 50, 51, 52, 208] = aw2 := rfl
theorem aw3_eq : feedC 6 aw2.2 (told 1 [48]) = aw3 := rfl
theorem aw4_eq : feedC 9 { aw3.2 with cut := 50 } (told 1 [49, 50, 51, 52]) = aw4 := rfl
theorem aw6_eq : feedC 5 aw4.2.booted (told 7 []) = aw6 := rfl
theorem aw7_eq : feedC 6 { aw6.2 with cut := 101 } (told 1 [48]) = aw7 := rfl
theorem cut_inn {d : Dv} (n : Int) (h : d.inn = ⟨#[]⟩) : ({ d with cut := n } : Dv).inn = ⟨#[]⟩ := h
theorem booted_inn (d : Dv) : d.booted.inn = ⟨#[]⟩ := rfl
theorem told_len (st : Int) (p : List UInt8) : (told st p).length = p.length + 4 := by simp [told]
/-- the document's examples, on a device of their own -/
theorem awake_chain : ∃ (D1 D2 D3 D4 D6 D7 : Dv) (fl : ByteArray), fed aw0 [165, 0, 7, 8] = ([165, 3, 0, 0, 5, 0, 9], D1) ∧ fed D1 [165, 4, 1, 49, 50, 51, 52, 208] = ([165, 0, 0, 1], D2) ∧
    fl = D2.h0 ++ D2.h1 ∧ fl.size = 200 ∧ (bytesI fl.data.toList).getD 4 0 = 3 ∧ (bytesI fl.data.toList).getD 104 0 = 2 ∧
    fed D2 (told 1 [48]) = ([165, 1, 3, 4, 9], D3) ∧ fed { D3 with cut := 50 } (told 1 [49, 50, 51, 52]) = ([], D4) ∧ fed D4.booted (told 7 []) = (told 0 [0, 4, 0], D6) ∧ fed { D6 with cut := 101 } (told 1 [48]) = (told 3 [3], D7) := by
  have a0 : aw0.inn = ⟨#[]⟩ := rfl
  have p1 := fed_of a0 (by simp) aw1_eq awake1.1
  have p2 := fed_of (empty_of_list awake1.2) (by simp) aw2_eq awake2.1
  have p3 := fed_of (empty_of_list awake2.2) (by rw [told_len]; rfl) aw3_eq awake3.1
  have p4 := fed_of (cut_inn 50 (empty_of_list awake3.2)) (by rw [told_len]; rfl) aw4_eq awake4
  have p6 := fed_of (booted_inn aw4.2) (by rw [told_len]; rfl) aw6_eq awake6.1
  have p7 := fed_of (cut_inn 101 (empty_of_list awake6.2)) (by rw [told_len]; rfl) aw7_eq awake7
  have n2 := awake2n
  revert p1 p2 p3 p4 p6 p7 n2
  generalize aw1.2 = d1
  generalize aw2.2 = d2
  generalize aw3.2 = d3
  generalize aw4.2 = d4
  generalize aw6.2 = d6
  generalize aw7.2 = d7
  intro p1 p2 p3 p4 p6 p7 n2
  have hfl : (d2.h0 ++ d2.h1).data.toList = Bs d2.h0 ++ Bs d2.h1 := by rw [ByteArray.data_append, Array.toList_append]
  refine ⟨d1, d2, d3, d4, d6, d7, _, p1, p2, rfl, ?_, ?_, ?_, p3, p4, p6, p7⟩
  · have := n2.2.2
    rw [← hfl, Array.length_toList] at this
    exact this
  · exact getD_bytes hfl n2.1 (by rw [n2.2.2]; omega)
  · exact getD_bytes hfl n2.2.1 (by rw [n2.2.2]; omega)
end Go.Proofs.YtaokemapkgggoaaDoor

namespace Go.Proofs.YtaokemapkgggoaaDoor
open Go.RowKit

theorem code_list (l : List Int) (m : List UInt8) (b : ByteArray) (h : toBytes l = m) (hb : b = str m) : strOfNums l = b := by rw [strOfNums_str, h, hb]
/-- a new device of the program's -/
theorem keep_New (w0 w : World) (p : ByteArray) (hb : Below w0.heap.size w0 w) (h1 : 1 ≤ p.size) (h2 : p.size ≤ 8) :
    Calls Tryd.prog 29 #[.string p] w fun r w' => ∃ g, r = .returned (.tuple #[.pointer (some ⟨g, 0, none⟩), .int .i64 0]) ∧ w.heap.size ≤ g ∧ KdAt w0 w' g (Dv.fresh 0 p) ∧ Below w.heap.size w w' := by
  refine (prog_New_yes w p h1 h2).mono ?_
  rintro r w' ⟨g, hr, hg, hR, hbl⟩
  refine ⟨g, hr, hg, ⟨.inl ⟨rfl, ?_⟩, fresh_sound 0 p h1 h2, fresh_stands 0 p h1 h2, by show (0 : Nat) < 52; omega, Nat.le_trans hb.size hg, hb.trans (hbl.mono hb.size)⟩, hbl⟩
  have e0 : Bs (Dv.fresh 0 p).h0 = (Dv.fresh 0 p).k.img := str_list _
  have e1 : Bs (Dv.fresh 0 p).h1 = List.replicate 100 0 := (str_list _).trans rfl
  unfold PdAt
  rw [e0, e1]
  rw [show fieldB 9 p.data.toList = fieldB 9 (Bs p) from rfl, first_img p h2] at hR
  exact hR

/-- what feeding leaves, where the answer is known -/
theorem keep_fed {w0 w : World} {g : Nat} {d e : Dv} {l r : List UInt8} (G : Glob w0) (K : KdAt w0 w g d) (h : fed d l = (r, e)) (hs : l.length < 1900000) (s : ByteArray) (hl : s = str l) :
    Calls Tryd.prog 19 #[.pointer (some ⟨g, 0, none⟩), .string s] w fun r' w' => r' = .returned (.string (str r)) ∧ KdAt w0 w' g e ∧ w.grownBy w' (some g) := by
  have := keep_Feed G K l hs
  rw [h] at this
  rw [hl]
  exact this

/-- a whole frame, fed to a device with power that waits for nothing -/
theorem fed_cmd {d : Dv} {c : Dv × Int × List UInt8} (ki : Int) (p : List UInt8) (h0 : 0 ≤ ki) (h1 : ki < 256) (hp : p.length ≤ 48) (ho : d.off = false) (hi : d.inn = ⟨#[]⟩) (hc : d.commandC ki (str p) = c) :
    fed d (told ki p) = ((if c.1.off = true then [] else told c.2.1 c.2.2), c.1.withIn []) := by
  obtain ⟨n, rfl⟩ : ∃ n : Nat, ki = n := ⟨ki.toNat, by omega⟩
  rw [fed_frame n p (by omega) hp ho hi, hc]
theorem fed_on {d e : Dv} {st : Int} {l : List UInt8} (ki : Int) (p : List UInt8) (h0 : 0 ≤ ki) (h1 : ki < 256) (hp : p.length ≤ 48) (ho : d.off = false) (hi : d.inn = ⟨#[]⟩) (hc : d.commandC ki (str p) = (e, st, l)) (heo : e.off = false) (hei : e.inn = ⟨#[]⟩) :
    fed d (told ki p) = (told st l, e) := by
  rw [fed_cmd ki p h0 h1 hp ho hi hc]
  dsimp only
  rw [if_neg (by rw [heo]; decide), withIn_self hei]
end Go.Proofs.YtaokemapkgggoaaDoor

namespace Go.Proofs.YtaokemapkgggoaaDoor
open Go.RowKit

theorem awake_sum0 : sumSpec K0 H0 0 [] = [227, 176, 196, 66, 152, 252, 28, 20, 154, 251, 244, 200, 153, 111, 185, 36, 39, 174, 65, 228, 100, 155, 147, 76, 164, 149, 153, 27, 120, 82, 184, 85] := by decide +kernel
theorem awake_sum1 : sumSpec K0 H0 0 [97, 98, 99] = [186, 120, 22, 191, 143, 1, 207, 234, 65, 65, 64, 222, 93, 174, 34, 35, 176, 3, 97, 163, 150, 23, 122, 156, 180, 16, 255, 97, 242, 0, 21, 173] := by decide +kernel
theorem awake_code0 : codeSpec [49, 50, 51, 52, 53, 54, 55, 56, 57, 48, 49, 50, 51, 52, 53, 54, 55, 56, 57, 48] 0 = [56, 55, 53, 55, 52, 48] := by decide +kernel
theorem awake_code1 : codeSpec [49, 50, 51, 52, 53, 54, 55, 56, 57, 48, 49, 50, 51, 52, 53, 54, 55, 56, 57, 48] 1 = [50, 52, 55, 51, 55, 52] := by decide +kernel

end Go.Proofs.YtaokemapkgggoaaDoor
