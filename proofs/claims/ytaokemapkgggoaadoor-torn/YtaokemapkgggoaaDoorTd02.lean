import Derived.Test.YtaokemapkgggoaaDoorKb32
import Derived.Test.YtaokemapkgggoaaDoorTd01
namespace Go.Proofs.YtaokemapkgggoaaDoor
open Go.RowKit

/-- texts as cells -/
def strs (ss : List ByteArray) : List Value := ss.map Value.string
theorem strs_length (ss : List ByteArray) : (strs ss).length = ss.length := by simp [strs]
theorem strs_set (ss : List ByteArray) (n : Nat) (b : ByteArray) : (strs ss).set n (.string b) = strs (ss.set n b) := by simp [strs, List.map_set]
theorem strs_get (ss : List ByteArray) (n : Nat) (h : n < ss.length) : (strs ss)[n]? = some (.string (ss.getD n ⟨#[]⟩)) := by
  simp [strs, List.getD_eq_getElem?_getD, h]
theorem arr4s : ArrT Tryd.prog 45 4 (.string ⟨#[]⟩) := ⟨⟨9, by kernel_rfl⟩, by kernel_rfl⟩

theorem results_row2b {P : Program} {fn : Func} {p u : Tmp} {ty : TypeId} (hf : fn.results = #[.tmp u, .cell p ty]) (tmps : Array Value) (w : World) (g : Nat) (t : TypeId) (cs : List Value) (n : Nat) (z v : Value)
    (hp : tmps.getD p undef = .pointer (some ⟨g, 0, none⟩)) (hu : tmps.getD u undef = v) (hr : Row w g cs t) (ht : ArrT P ty n z) (hn : cs.length = n) : (results fn tmps).run P w = .ok (.tuple #[v, .agg cs.toArray]) w := by
  obtain ⟨e, hue⟩ := ht.u
  have hl := run_loadVar_row (P := P) w g t ty cs.toArray (0, 0) _ hr hue rfl (by rw [ht.size]; simp [hn])
  have hp' : tmps[p]?.getD undef = .pointer (some ⟨g, 0, none⟩) := by simpa using hp
  have hu' : tmps[u]?.getD undef = v := by simpa using hu
  simp [results, hf, hp', hu', asAddr, hl]

/-- fine's own memory: what it answers with, and what its slots have -/
structure HasAt (w wr : World) (g : Nat) (d : Dv) (ss : List ByteArray) : Prop where
  kd : KdAt w wr g d
  out : Row wr w.heap.size (zrow 4 (.string ⟨#[]⟩)) 45
  has : Row wr (w.heap.size + 1) (strs ss) 45
  low : w.heap.size + 2 ≤ g
section
variable {w wr wr' : World} {g : Nat} {d e : Dv} {ss : List ByteArray}
theorem HasAt.next (H : HasAt w wr g d ss) (hb : Below wr.heap.size wr wr') : HasAt w wr' g d ss := ⟨H.kd.next hb, H.out.below hb H.out.lt, H.has.below hb H.has.lt, H.low⟩
theorem HasAt.feed (H : HasAt w wr g d ss) (K : KdAt w wr' g e) (hg : wr.grownBy wr' (some g)) : HasAt w wr' g e ss := ⟨K, H.out.grown hg (by have := H.low; omega), H.has.grown hg (by have := H.low; omega), H.low⟩
theorem HasAt.set (H : HasAt w wr g d ss) (n : Nat) (b : ByteArray) : HasAt w (wr.setCell ⟨w.heap.size + 1, n, none⟩ (.string b)) g d (ss.set n b) := by
  have hg : wr.grownBy (wr.setCell ⟨w.heap.size + 1, n, none⟩ (.string b)) (some (w.heap.size + 1)) := grown_set (World.grownBy.refl _ _) n _
  exact ⟨H.kd.other hg (by omega) (by have := H.low; omega), H.out.grown hg (by omega), by rw [← strs_set]; exact H.has.setCell n _, H.low⟩
theorem HasAt.cell (H : HasAt w wr g d ss) (n : Nat) (hn : n < ss.length) : wr.cell? ⟨w.heap.size + 1, n, none⟩ = some (.string (ss.getD n ⟨#[]⟩)) := by rw [H.has.cell, strs_get _ _ hn]
end

set_option maxRecDepth 100000 in
set_option maxHeartbeats 4000000 in
theorem keep_fine (w : World) (c : Int) (ko : Option Addr) (kl kc : Nat) (G : Glob w) (hc0 : -9223372036854775808 ≤ c) (hc1 : c ≤ 9223372036854775807) (hK : IntsAt w ko kl) (hkl : kl < 9223372036854775808) :
    Calls Tryd.prog 22 #[.int .i64 c, .slice ko kl kc] w fun r w' => ∃ g d ss, r = .returned (.tuple #[.pointer (some ⟨g, 0, none⟩), .agg (strs ss).toArray]) ∧ Fine (pinL c) 11 ss d ∧ KdAt w w' g d := by
  obtain ⟨lc1, lc2⟩ := pinL_len c
  obtain ⟨e0, hf0, F0⟩ := fine_fresh (pinL c) lc1 lc2
  obtain ⟨D, HD⟩ : ∃ D, Hid (D = Dv.fresh 0 (str (pinL c))) := ⟨_, rfl⟩
  obtain ⟨pb, HPB⟩ : ∃ pb, Hid (pb = str (pinL c)) := ⟨_, rfl⟩
  obtain ⟨f1, HF1⟩ : ∃ f1, Hid (f1 = str (told 1 (pinL c))) := ⟨_, rfl⟩
  obtain ⟨f0, HF0⟩ : ∃ f0, Hid (f0 = str (told 0 [])) := ⟨_, rfl⟩
  have hop : Hid (∀ W, Below w.heap.size w W → Calls Tryd.prog 15 #[.int .i64 c] W fun r w' => ∃ g, r = .returned (.pointer (some ⟨g, 0, none⟩)) ∧ W.heap.size ≤ g ∧ KdAt w w' g D ∧ Below W.heap.size W w') := fun W hb => by rw [HD.out]; exact keep_opened w W c G hb hc0 hc1
  have hpin : Hid (∀ W, Calls Tryd.prog 17 #[.int .i64 c] W fun r w' => r = .returned (.string pb) ∧ Below W.heap.size W w') := fun W => by rw [HPB.out]; exact keep_pin c W hc0 hc1
  have hfr1 : Hid (∀ W, Calls Tryd.prog 16 #[.int .i64 1, .string pb] W fun r w' => r = .returned (.string f1) ∧ Below W.heap.size W w') := fun W => frame_is 1 pb (pinL c) (by rw [HPB.out]; exact str_list _) W (by omega) (by omega) (by omega) f1 HF1.out
  have hfr0 : Hid (∀ W, Calls Tryd.prog 16 #[.int .i64 0, .string ⟨#[]⟩] W fun r w' => r = .returned (.string f0) ∧ Below W.heap.size W w') := fun W => frame_is 0 _ [] rfl W (by omega) (by omega) (by decide) f0 HF0.out
  have hfd1 : Hid (∀ W g, KdAt w W g D → Calls Tryd.prog 19 #[.pointer (some ⟨g, 0, none⟩), .string f1] W fun r w' => r = .returned (.string f0) ∧ KdAt w w' g e0 ∧ W.grownBy w' (some g)) := fun W g K => by rw [HF0.out]; exact keep_fed G (by rw [HD.out] at K; exact K) hf0 (by rw [told_len]; omega) _ HF1.out
  have HK : Hid (IntsAt w ko kl) := hK
  clear hf0 hK
  go_enter Tryd.func22, Tryd.ntmps22
  have t1 : Hid True := trivial
  go_wp2_with (first | (refine wpList_allocR rfl 45 rfl 4 (.string ⟨#[]⟩) arr4s ?_; go_simp) | (go_at_call 15; refine (hop.out _ (((Below.refl _ _).alloc (Nat.le_refl _) _).alloc (by simp) _)).mono ?_; rintro _ w1 ⟨g, rfl, hg, K, hb1⟩; have HH : HasAt w w1 g D [⟨#[]⟩, ⟨#[]⟩, ⟨#[]⟩, ⟨#[]⟩] := ⟨K, ((Row.made w _ _).alloc _).below hb1 (by simp; omega), (Row.made1 w _ _ _).below hb1 (by simp), by simpa using hg⟩; clear K hb1 hg) | (go_at_call 17; refine (hpin.out _).mono ?_; rintro _ w2 ⟨rfl, hb2⟩; replace HH := HH.next hb2; clear hb2) | (go_at_call 16; first | (have tk := t1; clear tk t1; refine (hfr1.out _).mono ?_; rintro _ w3 ⟨rfl, hb3⟩; replace HH := HH.next hb3; clear hb3) | (refine (hfr0.out _).mono ?_; rintro _ w4 ⟨rfl, hb4⟩; replace HH := HH.next hb4; clear hb4)) | (go_at_call 19; refine (hfd1.out _ _ HH.kd).mono ?_; rintro _ w5 ⟨rfl, K5, hg5⟩; replace HH := HH.feed K5 hg5; clear K5 hg5))
  clear hop hpin hfr1 hfd1
  go_loopw [8, 9] (fun sv iv wr => ∃ (i : Nat) (d : Dv) (ss : List ByteArray), iv = .int .i64 i ∧ i ≤ 8 ∧ i ≤ kl ∧ Fine (pinL c) (3 + i) ss d ∧ HasAt w wr g d ss) (fun _ iv _ => 8 - (intOf iv).toNat)
  case atStart => exact ⟨0, _, _, rfl, by omega, by omega, F0, HH⟩
  case round =>
    clear HH F0
    obtain ⟨i, d, ss, rfl, hi8, hikl, F, HH⟩ := hrel
    by_cases hlt : i < kl ∧ i < 8
    · obtain ⟨hlt1, hlt2⟩ := hlt
      have q1 : (i : Int) < kl := by omega
      have q2 : (i : Int) < 8 := by omega
      have q0 : (0 : Int) ≤ i := by omega
      obtain ⟨kb, koff, z, rfl, hkb, e1, hz0, hz1⟩ := HK.out i hlt1
      have HE1 : Hid _ := e1
      have e3 : wr.cell? ⟨kb, koff + i, none⟩ = some (.int .i64 z) := (HH.kd.base.cell (p := ⟨kb, koff + i, none⟩) hkb).trans e1
      clear e1
      obtain ⟨n, HN⟩ : ∃ n : Nat, Hid (n = i % 4) := ⟨_, rfl⟩
      have hn4 : n < 4 := by rw [HN.out]; omega
      have hnm : (i : Int).tmod 4 = n := by rw [HN.out, Int.tmod_eq_emod_of_nonneg q0]; omega
      have hnm2 : (i : Int) % 4 = n := by rw [HN.out]; omega
      have hn0 : (0 : Int) ≤ n := by omega
      have hn5 : (n : Int) < 4 := by omega
      have hn8 : (n : Int) % 256 = n := by omega
      have hnn : (n : Int).toNat = n := by omega
      have hw8 : ∀ x : Int, IntKind.u8.wrap x = x % 256 := u8_wrap
      have hcv : ∀ (W : World), (convert 28 9 (.slice (some ⟨W.heap.size, 0, none⟩) 1 1)).run Tryd.prog (W.alloc (.cells #[.int .u8 (n : Int)] 5)) = .ok (.string (strOfNums [(n : Int)])) (W.alloc (.cells #[.int .u8 (n : Int)] 5)) := fun W => conv1 W n W.heap.size rfl
      have hz5 := size1
      have HL4 : Hid (ss.length = 4) := F.len
      obtain ⟨ks, HKS⟩ : ∃ ks, Hid (ks = str (keyL6 z)) := ⟨_, rfl⟩
      have hkey : Hid (∀ W, Calls Tryd.prog 11 #[.int .i64 z] W fun r w' => r = .returned (.string ks) ∧ Below W.heap.size W w') := fun W => by rw [HKS.out]; exact keep_key z W hz0 hz1
      by_cases hz : z.tmod 5 = 0
      · have hzb : (z.tmod 5 == 0) = true := by rw [hz]; rfl
        clear hz
        obtain ⟨e, hfd, F'⟩ := F.set (UInt8.ofNat n) n (by simp; omega) hn4 [] (by simp) (by omega)
        obtain ⟨f3, HF3⟩ : ∃ f3, Hid (f3 = str (told 3 [UInt8.ofNat n])) := ⟨_, rfl⟩
        have hfr3 : Hid (∀ W, Calls Tryd.prog 16 #[.int .i64 3, .string (strOfNums [(n : Int)])] W fun r w' => r = .returned (.string f3) ∧ Below W.heap.size W w') := fun W => frame_is 3 _ [UInt8.ofNat n] (by rfl) W (by omega) (by omega) (by simp) f3 HF3.out
        have hfr3' : Hid (∀ W, Calls Tryd.prog 16 #[.int .i64 3, .string (strOfNums [(n : Int)] ++ ⟨#[]⟩)] W fun r w' => r = .returned (.string f3) ∧ Below W.heap.size W w') := fun W => frame_is 3 _ [UInt8.ofNat n] (one_str n _ [] rfl) W (by omega) (by omega) (by simp) f3 HF3.out
        have hfd3 : Hid (∀ W, KdAt w W g d → Calls Tryd.prog 19 #[.pointer (some ⟨g, 0, none⟩), .string f3] W fun r w' => r = .returned (.string f0) ∧ KdAt w w' g e ∧ W.grownBy w' (some g)) := fun W K => by rw [HF0.out]; exact keep_fed G K hfd (by rw [told_len, List.length_singleton]; omega) _ HF3.out
        have HFP : Hid (Fine (pinL c) (3 + i + 1) (ss.set n ⟨#[]⟩) e) := F'
        clear F F' hfd
        have t1 : Hid True := trivial
        go_wp2_with (first | (go_at_call 11; refine (hkey.out _).mono ?_; rintro _ w2 ⟨rfl, hb2⟩; replace HH := HH.next hb2; clear hb2; have e4 : w2.cell? ⟨kb, koff + i, none⟩ = some (.int .i64 z) := (HH.kd.base.cell (p := ⟨kb, koff + i, none⟩) hkb).trans HE1.out) | (go_at_call 16; first | (have tk := t1; clear tk t1; (first | refine (hfr3.out _).mono ?_ | refine (hfr3'.out _).mono ?_); rintro _ w3 ⟨rfl, hb3⟩; replace HH := (HH.next ((Below.refl _ _).alloc (Nat.le_refl _) _)).next hb3; clear hb3) | (refine (hfr0.out _).mono ?_; rintro _ w4 ⟨rfl, hb4⟩; replace HH := HH.next hb4; clear hb4; have c4 := HH.cell n (by rw [HL4.out]; exact hn4); have z4 := HH.has.frozen n)) | (go_at_call 19; refine (hfd3.out _ HH.kd).mono ?_; rintro _ w5 ⟨rfl, K5, hg5⟩; replace HH := HH.feed K5 hg5; clear K5 hg5))
        exact ⟨⟨i + 1, e, _, by go_num, by omega, by omega, by have := HFP.out; rw [show (3 : Int) + i + 1 = 3 + ((i + 1 : Nat) : Int) by omega] at this; exact this, HH.set n _⟩, by simp [intOf]; omega⟩
      · have hzb : (z.tmod 5 == 0) = false := beq_eq_false_iff_ne.2 hz
        clear hz
        obtain ⟨lk1, lk2⟩ := keyL6_len z
        obtain ⟨e, hfd, F'⟩ := F.set (UInt8.ofNat n) n (by simp; omega) hn4 (keyL6 z) lk2 (by omega)
        obtain ⟨f3, HF3⟩ : ∃ f3, Hid (f3 = str (told 3 (UInt8.ofNat n :: keyL6 z))) := ⟨_, rfl⟩
        have hfr3 : Hid (∀ W, Calls Tryd.prog 16 #[.int .i64 3, .string (strOfNums [(n : Int)] ++ ks)] W fun r w' => r = .returned (.string f3) ∧ Below W.heap.size W w') := fun W => frame_is 3 _ (UInt8.ofNat n :: keyL6 z) (one_str n _ _ HKS.out) W (by omega) (by omega) (by simp; omega) f3 HF3.out
        have hfd3 : Hid (∀ W, KdAt w W g d → Calls Tryd.prog 19 #[.pointer (some ⟨g, 0, none⟩), .string f3] W fun r w' => r = .returned (.string f0) ∧ KdAt w w' g e ∧ W.grownBy w' (some g)) := fun W K => by rw [HF0.out]; exact keep_fed G K hfd (by rw [told_len, List.length_cons]; omega) _ HF3.out
        have hks : ks.size ≤ 20 := by rw [HKS.out, str_size]; exact lk2
        have hks2 : 1 + ks.size ≤ 9223372036854775807 := by omega
        have HFP : Hid (Fine (pinL c) (3 + i + 1) (ss.set n ks) e) := by rw [HKS.out]; exact F'
        clear F F' hfd
        have t1 : Hid True := trivial
        go_wp2_with (first | (go_at_call 11; refine (hkey.out _).mono ?_; rintro _ w2 ⟨rfl, hb2⟩; replace HH := HH.next hb2; clear hb2; have e4 : w2.cell? ⟨kb, koff + i, none⟩ = some (.int .i64 z) := (HH.kd.base.cell (p := ⟨kb, koff + i, none⟩) hkb).trans HE1.out) | (go_at_call 16; first | (have tk := t1; clear tk t1; refine (hfr3.out _).mono ?_; rintro _ w3 ⟨rfl, hb3⟩; replace HH := (HH.next ((Below.refl _ _).alloc (Nat.le_refl _) _)).next hb3; clear hb3) | (refine (hfr0.out _).mono ?_; rintro _ w4 ⟨rfl, hb4⟩; replace HH := HH.next hb4; clear hb4; have c4 := HH.cell n (by rw [HL4.out]; exact hn4); have z4 := HH.has.frozen n)) | (go_at_call 19; refine (hfd3.out _ HH.kd).mono ?_; rintro _ w5 ⟨rfl, K5, hg5⟩; replace HH := HH.feed K5 hg5; clear K5 hg5))
        exact ⟨⟨i + 1, e, _, by go_num, by omega, by omega, by have := HFP.out; rw [show (3 : Int) + i + 1 = 3 + ((i + 1 : Nat) : Int) by omega] at this; exact this, HH.set n _⟩, by simp [intOf]; omega⟩
    · have hlt' : ¬ ((i : Int) < kl ∧ (i : Int) < 8) := by omega
      have HFP : Hid (Fine (pinL c) 11 ss d) := ⟨F.up, F.unl, F.pin, F.tries, by have := F.num; omega, F.len, F.key⟩
      have HL : Hid ((strs ss).length = 4) := by show _ = _; rw [strs_length]; exact F.len
      have hcv : ∃ s0 s1 s2 s3, ss = [s0, s1, s2, s3] := by
        have := F.len
        match ss, this with
        | [a, b, c, d], _ => exact ⟨a, b, c, d, rfl⟩
      clear F
      obtain ⟨s0, s1, s2, s3, rfl⟩ := hcv
      have a0 : wr.cell? ⟨w.heap.size + 1, 0, none⟩ = some (.string s0) := HH.has.cell.trans rfl
      have a1 : wr.cell? ⟨w.heap.size + 1, 1, none⟩ = some (.string s1) := HH.has.cell.trans rfl
      have a2 : wr.cell? ⟨w.heap.size + 1, 2, none⟩ = some (.string s2) := HH.has.cell.trans rfl
      have a3 : wr.cell? ⟨w.heap.size + 1, 3, none⟩ = some (.string s3) := HH.has.cell.trans rfl
      have b0 : wr.cell? ⟨w.heap.size, 0, none⟩ = some (.string ⟨#[]⟩) := HH.out.cell.trans rfl
      have b1 : wr.cell? ⟨w.heap.size, 1, none⟩ = some (.string ⟨#[]⟩) := HH.out.cell.trans rfl
      have b2 : wr.cell? ⟨w.heap.size, 2, none⟩ = some (.string ⟨#[]⟩) := HH.out.cell.trans rfl
      have b3 : wr.cell? ⟨w.heap.size, 3, none⟩ = some (.string ⟨#[]⟩) := HH.out.cell.trans rfl
      have fz := HH.out.frozen
      have HKD : Hid (∀ a b c e : Value, KdAt w ((((wr.setCell ⟨w.heap.size, 0, none⟩ a).setCell ⟨w.heap.size, 1, none⟩ b).setCell ⟨w.heap.size, 2, none⟩ c).setCell ⟨w.heap.size, 3, none⟩ e).drew g d) := fun a b c e => by
        have hg : wr.grownBy ((((wr.setCell ⟨w.heap.size, 0, none⟩ a).setCell ⟨w.heap.size, 1, none⟩ b).setCell ⟨w.heap.size, 2, none⟩ c).setCell ⟨w.heap.size, 3, none⟩ e) (some w.heap.size) := grown_set (grown_set (grown_set (grown_set (World.grownBy.refl _ _) 0 _) 1 _) 2 _) 3 _
        exact (HH.kd.other hg (Nat.le_refl _) (by have := HH.low; omega)).next ((Below.refl _ _).drew)
      by_cases q1 : (i : Int) < kl
      · have q2 : ¬ (i : Int) < 8 := fun e => hlt' ⟨q1, e⟩
        go_wp2
        go_region
        go_wp2
        refine bodyPost_ret (v := .tuple #[.pointer (some ⟨g, 0, none⟩), .agg (strs [s0, s1, s2, s3]).toArray]) (results_row2b Tryd.results22 _ _ w.heap.size 45 (strs [s0, s1, s2, s3]) 4 (.string ⟨#[]⟩) (.pointer (some ⟨g, 0, none⟩)) rfl rfl (((((HH.out.setCell 0 _).setCell 1 _).setCell 2 _).setCell 3 _).drew) arr4s rfl) rfl ⟨g, d, _, rfl, HFP.out, HKD.out _ _ _ _⟩
      · go_wp2
        go_region
        go_wp2
        refine bodyPost_ret (v := .tuple #[.pointer (some ⟨g, 0, none⟩), .agg (strs [s0, s1, s2, s3]).toArray]) (results_row2b Tryd.results22 _ _ w.heap.size 45 (strs [s0, s1, s2, s3]) 4 (.string ⟨#[]⟩) (.pointer (some ⟨g, 0, none⟩)) rfl rfl (((((HH.out.setCell 0 _).setCell 1 _).setCell 2 _).setCell 3 _).drew) arr4s rfl) rfl ⟨g, d, _, rfl, HFP.out, HKD.out _ _ _ _⟩
end Go.Proofs.YtaokemapkgggoaaDoor

namespace Go.Proofs.YtaokemapkgggoaaDoor
open Go.RowKit

/-- a device, and a table of four texts beside it -/
structure HoldAt (w wr : World) (g : Nat) (d : Dv) (hb : Nat) (ss : List ByteArray) : Prop where
  kd : KdAt w wr g d
  has : Row wr hb (strs ss) 45
  low : w.heap.size ≤ hb
  ne : ¬ hb = g
section
variable {w wr wr' : World} {g hb : Nat} {d e : Dv} {ss : List ByteArray}
theorem HoldAt.next (H : HoldAt w wr g d hb ss) (hx : Below wr.heap.size wr wr') : HoldAt w wr' g d hb ss := ⟨H.kd.next hx, H.has.below hx H.has.lt, H.low, H.ne⟩
theorem HoldAt.feed (H : HoldAt w wr g d hb ss) (K : KdAt w wr' g e) (hg : wr.grownBy wr' (some g)) : HoldAt w wr' g e hb ss := ⟨K, H.has.grown hg H.ne, H.low, H.ne⟩
theorem HoldAt.cell (H : HoldAt w wr g d hb ss) (n : Nat) (hn : n < ss.length) : wr.cell? ⟨hb, n, none⟩ = some (.string (ss.getD n ⟨#[]⟩)) := by rw [H.has.cell, strs_get _ _ hn]
theorem HoldAt.glob (H : HoldAt w wr g d hb ss) (G : Glob w) : Glob wr := G.below H.kd.base (Nat.le_refl _)
theorem HoldAt.made (K : KdAt w wr g d) (h : Row wr' wr.heap.size (strs ss) 45) (hx : Below wr.heap.size wr wr') : HoldAt w wr' g d wr.heap.size ss := ⟨K.next hx, h, K.base.size, by have := K.pd.lt; omega⟩
end
theorem strs_one (ss : List ByteArray) : ∀ v ∈ strs ss, v.oneCell' = true := by
  intro v hv
  simp only [strs, List.mem_map] at hv
  obtain ⟨b, _, rfl⟩ := hv
  rfl
theorem empty_ba {k : ByteArray} (h : k.size = 0) : k = ⟨#[]⟩ := ByteArray.ext (Array.eq_empty_of_size_eq_zero h)
theorem sealSpec_length (kb : List Int) (l : List UInt8) : (sealSpec kb l).length = 32 := sumSpec_length _ (blockOn_w8 W8_H0) _ _
set_option maxRecDepth 100000 in
set_option maxHeartbeats 1000000 in
theorem keep_told (k : ByteArray) (W : World) (G : Glob W) (hk : k.size ≤ 20) :
    Calls Tryd.prog 26 #[.string k] W fun r w' => r = .returned (.string (str (sealTold k [109]))) ∧ Below W.heap.size W w' := by
  by_cases hz : k.size = 0
  · have hE : Hid (sealTold k [109] = told 5 []) := by show _ = _; rw [sealTold, if_pos hz]
    obtain ⟨f5, HF5⟩ : ∃ f5, Hid (f5 = str (told 5 [])) := ⟨_, rfl⟩
    have hfr := fun W => frame_is 5 ⟨#[]⟩ [] rfl W (by omega) (by omega) (by decide) f5 HF5.out
    have e := empty_ba hz
    rw [hE.out, ← HF5.out]
    clear hz hE HF5
    subst e
    go_enter Tryd.func26, Tryd.ntmps26
    go_wp2_with (go_at_call 16; refine (hfr _).mono ?_; rintro _ w1 ⟨rfl, hb1⟩)
    go_ret
    exact ⟨rfl, hb1⟩
  · have hE : Hid (sealTold k [109] = told 0 (toBytes (sealSpec (blk 20 k.data.toList) [109]))) := by show _ = _; rw [sealTold, if_neg hz]
    have hke : k.toList.isEmpty = false := toList_ne_nil (by omega)
    obtain ⟨ov, HO⟩ : ∃ ov, Hid (ov = sealSpec (blk 20 k.data.toList) [109]) := ⟨_, rfl⟩
    have hol : Hid ((u8s ov).length = 32) := by show _ = _; rw [u8s_length, HO.out]; exact sealSpec_length _ _
    have hol' : Hid (ov.length = 32) := by show _ = _; rw [HO.out]; exact sealSpec_length _ _
    have hse := prog_Seal_yes k ⟨#[109]⟩ W G (by omega) hk (by decide)
    rw [show (⟨#[109]⟩ : ByteArray).data.toList = [109] from rfl, ← HO.out] at hse
    obtain ⟨f0, HF0⟩ : ∃ f0, Hid (f0 = str (told 0 (toBytes ov))) := ⟨_, rfl⟩
    have hfr := fun W => frame_is 0 (strOfNums ov) (toBytes ov) rfl W (by omega) (by omega) (by rw [toBytes_length, hol'.out]; decide) f0 HF0.out
    rw [hE.out, ← HO.out, ← HF0.out]
    clear hE HF0 HO
    go_enter Tryd.func26, Tryd.ntmps26
    go_wp2_with (first | (go_at_call 12; refine hse.mono ?_; rintro _ w1 ⟨rfl, hb1⟩) | (refine wpList_allocR rfl 24 rfl 32 (.int .u8 0) arr32b ?_; go_simp) | (refine wpList_storeMA rfl 24 _ _ rfl w1.heap.size rfl rfl (u8s ov) rfl 24 _ 32 (.int .u8 0) arr32b hol.out (zrow_length _ _) (u8s_one _) ?_; intro w2 hr2 hb2; have hcv := run_convR w2 w1.heap.size ov 32 32 hol'.out hr2.range; go_simp) | (go_at_call 16; refine (hfr _).mono ?_; rintro _ w3 ⟨rfl, hb3⟩))
    go_ret
    have h12 := hb1.trans (hb2.mono hb1.size)
    exact ⟨rfl, h12.trans (hb3.mono h12.size)⟩
end Go.Proofs.YtaokemapkgggoaaDoor

namespace Go.Proofs.YtaokemapkgggoaaDoor
open Go.RowKit

/-- a region that draws its order, from a world that is a letter -/
theorem wp_region_letter {P : Program} {ops : Array Oper} {Q : Exit → Act → World → Prop} {S : World → Prop} {id : Nat} {a : Act} {w : World} (hm : P.follows .mixedOrders = true) (hS : S w.drew)
    (h : ∀ w0, S w0 → wpAnyH P .any ops Q S ops.size (Array.replicate ops.size false) a w0) : (Code.region id ops true).wp P Q a w :=
  wp_region_held hm (h _ hS)
theorem row_built (w : World) (n : Int) : Row (w.alloc (.cells #[.int .u8 n] 5)) w.heap.size (u8s [n]) 5 := Row.made w (u8s [n]) 5
theorem below_built (w : World) (o : Obj) : Below w.heap.size w (w.alloc o) := (Below.refl _ _).alloc (Nat.le_refl _) _
end Go.Proofs.YtaokemapkgggoaaDoor
