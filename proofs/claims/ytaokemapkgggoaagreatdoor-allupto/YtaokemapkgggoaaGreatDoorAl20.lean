import Derived.Test.YtaokemapkgggoaaGreatDoorAl19
import Derived.Test.YtaokemapkgggoaaGreatDoorAl13
namespace Go.Proofs.YtaokemapkgggoaaGreatDoor
open Go.RowKit

set_option maxRecDepth 100000 in
set_option maxHeartbeats 16000000 in
theorem ref_sum (s : ByteArray) (g : Nat) (w : World) (hS : Summ w g) (hs : s.size < 100000) :
    Calls Tryz.prog 14 #[.pointer (some ⟨g, 0, none⟩), .string s] w fun r w' => r = .returned (.string (strOfNums (sumSpecRef s.data.toList))) ∧ Below w.heap.size w w' := by
  obtain ⟨gk, ck, gh, ch, q1, q2, q3, q4, q5, q6⟩ := hS
  have hgl : g < w.heap.size := World.block_lt_of_cell? _ _ q1
  obtain ⟨l, HL⟩ : ∃ l, Hid (l = s.data.toList) := ⟨_, rfl⟩
  have hll : Hid (l.length = s.size) := by show _ = _; rw [HL.out, Array.length_toList]; rfl
  go_enter Tryz.func14, Tryz.ntmps14
  go_wp2
  go_loop [1] (fun c => ∃ (j : Nat) (u : ByteArray), j ≤ padN s.size ∧ c = .string u ∧ Hid (u.data.toList = l ++ (128 :: List.replicate j 0)) ∧ Hid (u.size = s.size + 1 + j)) (fun c => s.size + 1 + padN s.size - (match c with | .string u => u.size | _ => 0))
  case atStart => exact ⟨0, s ++ ⟨#[128]⟩, by omega, rfl, by show _ = _; rw [HL.out]; simp, by show _ = _; simp [ByteArray.size_append]; rfl⟩
  case round =>
    obtain ⟨j, u, hj, rfl, HU, HZ⟩ := hrel
    have hpl : padN s.size < 64 := by unfold padN; omega
    by_cases hlt : u.size % 64 = 56
    · have hz := HZ.out
      have hjp : j = padN s.size := by unfold padN at *; omega
      have HJ : Hid _ := hjp
      clear hjp
      have ht1 : ((u.size : Int) % 64 != 56) = false := by rw [bne_eq_false_iff_eq]; omega
      clear hlt hz
      obtain ⟨pw, HPw⟩ : ∃ pw : Nat → Int, Hid (pw = fun i => 72057594037927936 / 256 ^ i) := ⟨fun i => 72057594037927936 / 256 ^ i, show _ = _ from rfl⟩
      have HPw0 : Hid (pw 0 = 72057594037927936) := by show _ = _; rw [HPw.out]; rfl
      have HPwS : Hid (∀ i, pw i / 256 = pw (i + 1)) := by rw [HPw.out]; exact div_256
      have HPwB : Hid (∀ i, i < 8 → 1 ≤ pw i ∧ pw i ≤ 72057594037927936) := by rw [HPw.out]; intro i hi; show 1 ≤ (72057594037927936 : Int) / 256 ^ i ∧ (72057594037927936 : Int) / 256 ^ i ≤ _; rw [pow_step i hi]; exact pow_bd8 i hi
      obtain ⟨e8, HE⟩ : ∃ e8, Hid (e8 = eightTo (8 * s.size) 8) := ⟨_, rfl⟩
      have HE8 : Hid (e8.length = 8) := by show _ = _; rw [HE.out, eightTo_length]
      have HEs : Hid (∀ i, i < 8 → e8.take (i + 1) = e8.take i ++ [8 * (s.size : Int) / pw i % 256]) := by
        intro i hi; rw [HE.out, HPw.out]; show _ = _ ++ [8 * (s.size : Int) / (72057594037927936 / 256 ^ i) % 256]; rw [pow_step i hi]; exact eightTo_take _ i hi
      have HEB : Hid (∀ x ∈ e8, isB x) := by rw [HE.out]; exact eightTo_B _ _
      go_wp2
      go_loopw [6, 7, 8] (fun tv pv c wr => ∃ i : Nat, i ≤ 8 ∧ c = .int .i64 i ∧ pv = .int .i64 (pw i) ∧ Own wr w.heap.size .u8 5 tv (e8.take i) ∧ Below w.heap.size w wr) (fun _ _ c _ => 8 - (intOf c).toNat)
      case atStart => exact ⟨0, by omega, rfl, by rw [HPw0.out], Own.nil _ _ _ _, Below.refl _ _⟩
      case round =>
        obtain ⟨i, hi, rfl, rfl, hown, hB⟩ := hrel
        have hbs := hB.size
        have htl : (e8.take i).length = i := by rw [List.length_take, HE8.out]; omega
        have HTL : Hid _ := htl
        by_cases hlt : i < 8
        · obtain ⟨p1, p2⟩ := HPwB.out i hlt
          have HS := HPwS.out i
          have HSh : Hid _ := HS
          have HEi : Hid _ := HEs.out i hlt
          clear HS htl
          have hq0 : 0 ≤ 8 * (s.size : Int) / pw i := Int.ediv_nonneg (by omega) (by omega)
          have hq1 : 8 * (s.size : Int) / pw i ≤ 8 * (s.size : Int) := Int.ediv_le_self _ (by omega)
          generalize pw i = p at *
          go_wp2_with (at_builtin; refine wpList_app1 rfl (.tmp 45) (.tmp 51) 49 5 .u8 1 rfl slB w.heap.size _ (e8.take i) rfl hown _ _ _ rfl (by rw [HTL.out]; omega) hbs ?_; intro tv' w1 hown' hgrow _)
          refine ⟨⟨i + 1, by omega, by go_num, by rw [HSh.out], by rw [HEi.out]; exact hown', below_grown hB hgrow hown hbs (Nat.le_refl _)⟩, by simp [intOf]; omega⟩
        · have hi8 : i = 8 := by omega
          have e1 : e8.take i = e8 := List.take_of_length_le (by rw [HE8.out]; omega)
          rw [e1] at hown
          clear hi8 e1 htl HTL
          obtain ⟨gt, ct, hv, hgt1, hgt2, hcell, -⟩ := hown.at (by rw [HE8.out]; omega)
          rw [HE8.out] at hv
          subst hv
          have hconv := run_convert_bytes_arg wr 49 5 under_bytes under_u8 gt 0 8 ct e8 HE8.out (fun i hi => by rw [Nat.zero_add]; exact hcell i (by rw [HE8.out]; exact hi)) 9 under_str
          have q2' : wr.cell? ⟨g, 1, none⟩ = some (.slice (some ⟨gh, 0, none⟩) 8 ch) := (hB.cell (p := ⟨g, 1, none⟩) hgl).trans q2
          have q4' : At wr gh H0 := q4.below hB q6
          clear hcell
          obtain ⟨T, HT⟩ : ∃ T, Hid (T = u ++ strOfNums e8) := ⟨_, rfl⟩
          have HTl : Hid (T.data.toList = padded l) := by
            show _ = _
            rw [HT.out, ByteArray.data_append, Array.toList_append, HU.out, toBytes_str, HE.out, HJ.out, padded, hll.out]
          have HTs : Hid (T.size = s.size + 1 + padN s.size + 8) := by
            show _ = _
            rw [HT.out, ByteArray.size_append, HZ.out, HJ.out, strOfNums_size, HE8.out]
          have hd8 : decide ((i : Int) < 8) = false := by simp; omega
          have hsz8 : (strOfNums e8).size = 8 := by rw [strOfNums_size, HE8.out]
          have hub : u.size ≤ 200000 := by have h1 := HZ.out; omega
          go_wp2_with (at_builtin; refine wpList_app rfl (.tmp 59) (.tmp 63) 42 3 .i64 8 rfl slI w.heap.size _ [] rfl (Own.nil _ _ _ _) gh ch H0 rfl q4' (by decide) hbs ?_; intro hv w2 hownh hgrow _)
          rw [← HT.out]
          rw [List.nil_append] at hownh
          obtain ⟨g9, c9, hv9, b9, l9, z9, f9⟩ := hownh.at (by decide)
          rw [show H0.length = 8 from rfl] at hv9
          subst hv9
          have hB2 := hB.grown hgrow hbs (fun k hk => by cases hk)
          have hC9 : Cells9 w2 g9 H0 := ⟨z9, f9, l9⟩
          clear f9 l9
          clear hgrow hownh hown hB hconv q2' q4' hub hsz8 z9 HZ HU HJ HT ht1 hgt2
          obtain ⟨tl, HTL⟩ : ∃ tl, Hid (tl = padded l) := ⟨_, rfl⟩
          rw [← HTL.out] at HTl
          have hT64 : Hid (T.size % 64 = 0) := by show _ = _; rw [HTs.out]; unfold padN; omega
          have hTb : T.size < 200000 := by have h1 := HTs.out; omega
          have HTlen : Hid (tl.length = T.size) := by show _ = _; rw [← HTl.out, Array.length_toList]; rfl
          obtain ⟨f, HF⟩ : ∃ f : Nat → List Int, Hid (f = foldB K0 H0 tl) := ⟨_, rfl⟩
          have hfw : ∀ m, W8 (f m) := by rw [HF.out]; exact fun m => foldB_w8 W8_H0 tl m
          have HF0 : Hid (f 0 = H0) := by show _ = _; rw [HF.out]; rfl
          have HFS : Hid (∀ m, f (m + 1) = blockOn K0 (f m) (blk 64 (tl.drop (64 * m)))) := by rw [HF.out]; exact fun m => rfl
          have hC9lt := hC9.lt
          go_loopw [10] (fun c wr => ∃ m : Nat, 64 * m ≤ T.size ∧ c = .int .i64 (64 * (m : Int)) ∧ Cells9 wr g9 (f m) ∧ Below w.heap.size w wr) (fun c _ => T.size - (intOf c).toNat)
          case atStart => exact ⟨0, by omega, rfl, by rw [HF0.out]; exact hC9, hB2⟩
          case round =>
            clear hC9 hB2 hC9lt
            obtain ⟨m, hm, rfl, hC, hB⟩ := hrel
            by_cases hlt3 : 64 * m < T.size
            · have hm64 : 64 * m + 64 ≤ T.size := by have := hT64.out; omega
              have HFm : Hid _ := HFS.out m
              refine sum_turn T m g gk ck g9 c9 w wr (f m) tl q1 hgl q3 q5 b9 hm64 hTb HTl (hfw m) hC hB _ _ _ _ _ _ _ _ _ _ _ _ _ _ _ _ _ _ _ _ _ _ _ _ _ _ _ _ _ _ _ _ _ _ _ _ _ _ _ _ _ _ _ _ _ _ _ _ _ _ _ _ _ _ _ _ _ _ _ _ _ _ _ _ _ _ _ _ _ _ _ _ _ _ _ _ _ _ _ _ _ _ _ _ _ _ _ _ _ _ _ _ _ _ _ _ _ _ _ _ _ _ _ _ _ _ _ _ _ _ _ _ _ _ _ _ _ _ _ _ _ _ _ _ _ _ _ _ _ _ _ _ _ _ _ _ _ _ _ _ _ _ _ _ _ _ _ _ _ _ _ _ _ _ _ _ _ _ _ _ _ _ _ _ _ _ _ _ _ _ _ _ _ _ _ _ _ _ _ _ _ _ _ _ _ _ _ _ _ _ _ _ _ _ _ _ _ _ _ _ _ _ _ _ _ _ _ _ _ _ _ _ _ _ _ _ _ _ _ _ _ _ _ _ _ _ _ _ _ _ _ _ _ _ _ _ _ _ _ _ _ _ _ _ _ _ _ _ _ _ _ _ _ _ _ _ _ _ _ _ _ _ _ _ _ _ _ _ _ _ _ _ _ _ _ _ _ _ _ _ _ _ _ _ _ _ _ _ _ _ _ _ _ _ _ _ _ _ _ _ _ _ _ _ _ _ _ _ _ _ _ _ _ _ ?_
              intro v10 w' h10 hC' hB'
              intros
              subst h10
              rw [← HFm.out] at hC'
              go_wp2
              refine ⟨⟨m + 1, by omega, rfl, hC', hB'⟩, by simp [intOf]; omega⟩
            · have hmm : 64 * m = T.size := by have := hT64.out; omega
              have hdm : decide (64 * (m : Int) < T.size) = false := by simp; omega
              have HFE : Hid (f m = foldB K0 H0 (padded l) ((padded l).length / 64)) := by
                show _ = _
                rw [HF.out, ← HTL.out, HTlen.out, ← hmm, Nat.mul_div_cancel_left _ (by omega)]
              obtain ⟨fm, HFM⟩ : ∃ fm, Hid (fm = f m) := ⟨_, rfl⟩
              rw [← HFM.out] at hC
              have hfm : W8 fm := by rw [HFM.out]; exact hfw m
              clear hmm
              go_wp2
              refine sum_outs g9 c9 w wr fm hfm hC hB _ _ _ _ _ _ _ _ _ _ _ _ _ _ _ _ _ _ _ _ _ _ _ _ _ _ _ _ _ _ _ _ _ _ _ _ _ _ _ _ _ _ _ _ _ _ _ _ _ _ _ _ _ _ _ _ _ _ _ _ _ _ _ _ _ _ _ _ _ _ _ _ _ _ _ _ _ _ _ _ _ _ _ _ _ _ _ _ _ _ _ _ _ _ _ _ _ _ _ _ _ _ _ _ _ _ _ _ _ _ _ _ _ _ _ _ _ _ _ _ _ _ _ _ _ _ _ _ _ _ _ _ _ _ _ _ _ _ _ _ _ _ _ _ _ _ _ _ _ _ _ _ _ _ _ _ _ _ _ _ _ _ _ _ _ _ _ _ _ _ _ _ _ _ _ _ _ _ _ _ _ _ _ _ _ _ _ _ _ _ _ _ _ _ _ _ _ _ _ _ _ _ _ _ _ _ _ _ _ _ _ _ _ _ _ _ _ _ _ _ _ _ _ _ _ _ _ _ _ _ _ _ _ _ _ _ _ _ _ _ _ _ _ _ _ _ _ _ _ _ _ _ _ _ _ _ _ _ _ _ _ _ _ _ _ _ _ _ _ _ _ _ _ _ _ _ _ _ _ _ _ _ _ _ _ _ _ _ _ _ _ _ _ _ _ _ _ _ _ _ _ _ _ _ _ _ _ _ _ _ _ _ _ _ _ ?_
              clear hC hB
              intro v28 v29 w8 hO hB
              intros
              have hl32 : (fm.flatMap four).length = 32 := by rw [flat_length, hfm.len]
              obtain ⟨ol, HOl⟩ : ∃ ol, Hid (ol = fm.flatMap four) := ⟨_, rfl⟩
              rw [← HOl.out] at hO hl32
              obtain ⟨go, co, hv, -, -, hcell, -⟩ := hO.at (by omega)
              rw [hl32] at hv
              subst hv
              have hconv := run_convert_bytes_arg w8 49 5 under_bytes under_u8 go 0 32 co ol hl32 (fun i hi => by rw [Nat.zero_add]; exact hcell i (by rw [hl32]; exact hi)) 9 under_str
              clear hcell hl32
              go_wp2
              go_ret
              refine ⟨?_, hB⟩
              have hfin : foldB K0 H0 (padded s.data.toList) ((padded s.data.toList).length / 64) = fm := by rw [HFM.out, HFE.out, HL.out]
              rw [show sumSpecRef s.data.toList = ol by unfold sumSpecRef; rw [hfin, HOl.out]]
              rfl
    · have hz := HZ.out
      have hjp : j < padN s.size := by unfold padN at *; omega
      have ht1 : ((u.size : Int) % 64 != 56) = true := by rw [bne_iff_ne]; omega
      clear hlt
      have hub : u.size ≤ 200000 := by omega
      clear hz
      go_wp2
      refine ⟨⟨j + 1, u ++ ⟨#[0]⟩, by omega, rfl, ?_, ?_⟩, ?_⟩
      · show _ = _
        rw [List.replicate_succ', ByteArray.data_append, Array.toList_append, HU.out]; simp
      · show _ = _
        rw [ByteArray.size_append, HZ.out]; rfl
      · have h2 : (u ++ ⟨#[0]⟩ : ByteArray).size = u.size + 1 := by rw [ByteArray.size_append]; rfl
        have h1 := HZ.out
        simp only [h2]
        omega
end Go.Proofs.YtaokemapkgggoaaGreatDoor

namespace Go.Proofs.YtaokemapkgggoaaGreatDoor
open Go.RowKit

theorem Dv.ok.put {d : Dv} (h : d.ok) (n : Nat) (q : ByteArray) (hq : q.size ≤ 20) : (d.k.put n q).fair := by
  have f := h.fair
  unfold Kep.put
  split
  · exact ⟨f.n0, f.n1, f.t0, f.t1, f.pin, by show q.size < _; omega, f.k1, f.k2, f.k3⟩
  · split
    · exact ⟨f.n0, f.n1, f.t0, f.t1, f.pin, f.k0, by show q.size < _; omega, f.k2, f.k3⟩
    · split
      · exact ⟨f.n0, f.n1, f.t0, f.t1, f.pin, f.k0, f.k1, by show q.size < _; omega, f.k3⟩
      · exact ⟨f.n0, f.n1, f.t0, f.t1, f.pin, f.k0, f.k1, f.k2, by show q.size < _; omega⟩

theorem key_cell {w : World} {g : Nat} {d : Dv} (h : DvAt w g d) (n : Nat) (hn : n < 4) : w.cell? ⟨g, 6 + n, none⟩ = some (.string (d.k.key n)) := by
  obtain ⟨-, -, -, -, -, -, c6, c7, c8, c9, -⟩ := h.c
  rcases (by omega : n = 0 ∨ n = 1 ∨ n = 2 ∨ n = 3) with rfl | rfl | rfl | rfl
  · exact c6
  · exact c7
  · exact c8
  · exact c9

set_option maxRecDepth 100000 in
set_option maxHeartbeats 1000000 in
theorem ref_slot_none4 (w : World) (g : Nat) (d : Dv) (p : ByteArray) (h : DvAt w g d) (hu : ¬ d.unl = false) (hb : ¬ (p.size = 0 ∨ 4 ≤ hd0 p)) (hp : p.size < 1000000) (hk : (d.k.key (hd0 p)).size = 0) :
    Calls Tryz.prog 82 #[.pointer (some ⟨g, 0, none⟩), .int .i64 4, .string p] w (Left g w (d.slot 4 p)) := by
  rw [slot_std hu hb, if_neg (fun e => absurd e.1 (by decide)), if_neg (fun e => absurd e.1 (by decide)), if_neg (by decide), if_neg (fun e => absurd e.1 (by decide)), if_pos hk]
  obtain ⟨c0, c1, c2, c3, c4, c5, c6, c7, c8, c9, c10, c11, -⟩ := h.c
  rw [show d.unl = true by simpa using hu] at c11
  have h0 : ¬ p.size = 0 := fun e => hb (.inl e)
  have hpos : 0 < p.size := by omega
  have hby := byte_at hpos
  have hbd := getD_isB (bytesI_B p.data.toList) 0
  have h4 : ¬ 4 ≤ hd0 p := fun e => hb (.inr e)
  have hne := toList_ne_nil h0
  obtain ⟨b0, b1⟩ := hbd
  have hx : ((hd0 p : Nat) : Int) = (bytesI p.data.toList).getD 0 0 := by unfold hd0; omega
  rw [← hx] at hby b0 b1
  clear hx h0 hb
  have hps : (0 : Int) < p.size := by omega
  have hps1 : (1 : Int) ≤ p.size := by omega
  have h4' : ¬ (4 : Int) ≤ (hd0 p : Nat) := by omega
  have hr1 : p.extract 1 p.size = rest1 p := rfl
  have hrs : (rest1 p).size < 1000000 := by unfold rest1; rw [ByteArray.size_extract]; omega
  generalize hd0 p = n at *
  generalize rest1 p = q at *
  have hck := key_cell h n (by omega)
  rw [empty_of_size hk] at hck
  have hn0 : (0 : Int) ≤ (n : Nat) := by omega
  have hn4 : ((n : Nat) : Int) < 4 := by omega
  go_enter Tryz.func82, Tryz.ntmps82
  go_wp2_with (first | (go_at_call 83; refine (ref_worn w g _ h).mono ?_; rintro _ w9 ⟨rfl, e9⟩; rw [e9]; clear e9 w9))
  go_ret2
  exact ⟨rfl, h, World.grownBy.refl _ _⟩

set_option maxRecDepth 100000 in
set_option maxHeartbeats 1000000 in
theorem ref_slot_none5 (w : World) (g : Nat) (d : Dv) (p : ByteArray) (h : DvAt w g d) (hu : ¬ d.unl = false) (hb : ¬ (p.size = 0 ∨ 4 ≤ hd0 p)) (hp : p.size < 1000000) (hl : (rest1 p).size = 8) (hk : (d.k.key (hd0 p)).size = 0) :
    Calls Tryz.prog 82 #[.pointer (some ⟨g, 0, none⟩), .int .i64 5, .string p] w (Left g w (d.slot 5 p)) := by
  rw [slot_std hu hb, if_neg (fun e => absurd e.1 (by decide)), if_neg (fun e => absurd e.1 (by decide)), if_neg (by decide), if_neg (fun e => e.2 hl), if_pos hk]
  obtain ⟨c0, c1, c2, c3, c4, c5, c6, c7, c8, c9, c10, c11, -⟩ := h.c
  rw [show d.unl = true by simpa using hu] at c11
  have h0 : ¬ p.size = 0 := fun e => hb (.inl e)
  have hpos : 0 < p.size := by omega
  have hby := byte_at hpos
  have hbd := getD_isB (bytesI_B p.data.toList) 0
  have h4 : ¬ 4 ≤ hd0 p := fun e => hb (.inr e)
  have hne := toList_ne_nil h0
  obtain ⟨b0, b1⟩ := hbd
  have hx : ((hd0 p : Nat) : Int) = (bytesI p.data.toList).getD 0 0 := by unfold hd0; omega
  rw [← hx] at hby b0 b1
  clear hx h0 hb
  have hps : (0 : Int) < p.size := by omega
  have hps1 : (1 : Int) ≤ p.size := by omega
  have h4' : ¬ (4 : Int) ≤ (hd0 p : Nat) := by omega
  have hr1 : p.extract 1 p.size = rest1 p := rfl
  have hrs : (rest1 p).size < 1000000 := by unfold rest1; rw [ByteArray.size_extract]; omega
  generalize hd0 p = n at *
  generalize rest1 p = q at *
  have hck := key_cell h n (by omega)
  rw [empty_of_size hk] at hck
  have hl5 : (q.size : Int) = 8 := by omega
  have hn0 : (0 : Int) ≤ (n : Nat) := by omega
  have hn4 : ((n : Nat) : Int) < 4 := by omega
  go_enter Tryz.func82, Tryz.ntmps82
  go_wp2_with (first | (go_at_call 83; refine (ref_worn w g _ h).mono ?_; rintro _ w9 ⟨rfl, e9⟩; rw [e9]; clear e9 w9))
  go_ret2
  exact ⟨rfl, h, World.grownBy.refl _ _⟩

theorem keep_slot {w W wx : World} {g n sm : Nat} {kb : ByteArray} (hg : g < w.heap.size) (hb : Below W.heap.size W wx)
    (h : W.cell? ⟨g, 0, none⟩ = some (.pointer (some ⟨sm, 0, none⟩)) ∧ W.cell? ⟨g, 6 + n, none⟩ = some (.string kb) ∧ Summ W sm ∧ Below w.heap.size w W) :
    wx.cell? ⟨g, 0, none⟩ = some (.pointer (some ⟨sm, 0, none⟩)) ∧ wx.cell? ⟨g, 6 + n, none⟩ = some (.string kb) ∧ Summ wx sm ∧ Below w.heap.size w wx :=
  have hgW : g < W.heap.size := Nat.lt_of_lt_of_le hg h.2.2.2.size
  ⟨(hb.cell (p := ⟨g, 0, none⟩) hgW).trans h.1, (hb.cell (p := ⟨g, 6 + n, none⟩) hgW).trans h.2.1, h.2.2.1.below hb (Nat.le_refl _), h.2.2.2.trans (hb.mono h.2.2.2.size)⟩

set_option maxRecDepth 100000 in
set_option maxHeartbeats 1000000 in
theorem ref_slot_told4 (hsum : SumSaid sumSpecRef) (w : World) (g : Nat) (d : Dv) (p : ByteArray) (h : DvAt w g d) (hS : Summ w d.sm) (hu : ¬ d.unl = false) (hb : ¬ (p.size = 0 ∨ 4 ≤ hd0 p)) (hp : p.size < 80000) (hk : ¬ (d.k.key (hd0 p)).size = 0) :
    Calls Tryz.prog 82 #[.pointer (some ⟨g, 0, none⟩), .int .i64 4, .string p] w (Left g w (d.slot 4 p)) := by
  rw [slot_std hu hb, if_neg (fun e => absurd e.1 (by decide)), if_neg (fun e => absurd e.1 (by decide)), if_neg (by decide), if_neg (fun e => absurd e.1 (by decide)), if_neg hk, if_neg (by decide)]
  obtain ⟨c0, c1, c2, c3, c4, c5, c6, c7, c8, c9, c10, c11, -⟩ := h.c
  rw [show d.unl = true by simpa using hu] at c11
  have h0 : ¬ p.size = 0 := fun e => hb (.inl e)
  have hpos : 0 < p.size := by omega
  have hby := byte_at hpos
  have hbd := getD_isB (bytesI_B p.data.toList) 0
  have h4 : ¬ 4 ≤ hd0 p := fun e => hb (.inr e)
  have hne := toList_ne_nil h0
  obtain ⟨b0, b1⟩ := hbd
  have hx : ((hd0 p : Nat) : Int) = (bytesI p.data.toList).getD 0 0 := by unfold hd0; omega
  rw [← hx] at hby b0 b1
  clear hx h0 hb
  have hps : (0 : Int) < p.size := by omega
  have hps1 : (1 : Int) ≤ p.size := by omega
  have h4' : ¬ (4 : Int) ≤ (hd0 p : Nat) := by omega
  have hr1 : p.extract 1 p.size = rest1 p := rfl
  have hrs : (rest1 p).size < 80000 := by unfold rest1; rw [ByteArray.size_extract]; omega
  generalize hd0 p = n at *
  generalize rest1 p = q at *
  have hck := key_cell h n (by omega)
  have hke := toList_ne_nil hk
  have hn0 : (0 : Int) ≤ (n : Nat) := by omega
  have hn4 : ((n : Nat) : Int) < 4 := by omega
  generalize d.k.key n = kb at *
  have hlt := h.lt
  go_enter Tryz.func82, Tryz.ntmps82
  go_wp2_with (first | (go_at_call 83; refine (ref_worn w g _ h).mono ?_; rintro _ w9 ⟨rfl, e9⟩; rw [e9]; clear e9 w9))
  have hS0 : w.drew.cell? ⟨g, 0, none⟩ = some (.pointer (some ⟨d.sm, 0, none⟩)) ∧ w.drew.cell? ⟨g, 6 + n, none⟩ = some (.string kb) ∧ Summ w.drew d.sm ∧ Below w.heap.size w w.drew := ⟨c0, hck, hS, (Below.refl _ _).drew⟩
  go_region_held3 (fun w' => w'.cell? ⟨g, 0, none⟩ = some (.pointer (some ⟨d.sm, 0, none⟩)) ∧ w'.cell? ⟨g, 6 + n, none⟩ = some (.string kb) ∧ Summ w' d.sm ∧ Below w.heap.size w w') (first | exact hS0 | exact keep_slot hlt hbx (by assumption)) (first | (go_at_call 17; refine (ref_seal hsum sumRef_length kb q d.sm _ ?_ (by omega)).mono ?_; (go_split_ands; assumption); rintro _ wx ⟨rfl, hbx⟩))
  go_wp2
  go_ret2
  have hB := (keep_slot hlt hbx hS0).2.2.2
  exact ⟨rfl, h.below hB hlt, grown_of_below _ hB⟩

set_option maxRecDepth 100000 in
set_option maxHeartbeats 1000000 in
theorem ref_slot_told5 (hsum : SumSaid sumSpecRef) (w : World) (g : Nat) (d : Dv) (p : ByteArray) (h : DvAt w g d) (hS : Summ w d.sm) (hu : ¬ d.unl = false) (hb : ¬ (p.size = 0 ∨ 4 ≤ hd0 p)) (hp : p.size < 80000) (hl : (rest1 p).size = 8) (hk : ¬ (d.k.key (hd0 p)).size = 0) :
    Calls Tryz.prog 82 #[.pointer (some ⟨g, 0, none⟩), .int .i64 5, .string p] w (Left g w (d.slot 5 p)) := by
  rw [slot_std hu hb, if_neg (fun e => absurd e.1 (by decide)), if_neg (fun e => absurd e.1 (by decide)), if_neg (by decide), if_neg (fun e => e.2 hl), if_neg hk, if_pos rfl]
  obtain ⟨c0, c1, c2, c3, c4, c5, c6, c7, c8, c9, c10, c11, -⟩ := h.c
  rw [show d.unl = true by simpa using hu] at c11
  have h0 : ¬ p.size = 0 := fun e => hb (.inl e)
  have hpos : 0 < p.size := by omega
  have hby := byte_at hpos
  have hbd := getD_isB (bytesI_B p.data.toList) 0
  have h4 : ¬ 4 ≤ hd0 p := fun e => hb (.inr e)
  have hne := toList_ne_nil h0
  obtain ⟨b0, b1⟩ := hbd
  have hx : ((hd0 p : Nat) : Int) = (bytesI p.data.toList).getD 0 0 := by unfold hd0; omega
  rw [← hx] at hby b0 b1
  clear hx h0 hb
  have hps : (0 : Int) < p.size := by omega
  have hps1 : (1 : Int) ≤ p.size := by omega
  have h4' : ¬ (4 : Int) ≤ (hd0 p : Nat) := by omega
  have hr1 : p.extract 1 p.size = rest1 p := rfl
  have hrs : (rest1 p).size < 80000 := by unfold rest1; rw [ByteArray.size_extract]; omega
  generalize hd0 p = n at *
  generalize rest1 p = q at *
  have hck := key_cell h n (by omega)
  have hke := toList_ne_nil hk
  have hl5 : (q.size : Int) = 8 := by omega
  have hn0 : (0 : Int) ≤ (n : Nat) := by omega
  have hn4 : ((n : Nat) : Int) < 4 := by omega
  generalize d.k.key n = kb at *
  have hlt := h.lt
  go_enter Tryz.func82, Tryz.ntmps82
  go_wp2_with (first | (go_at_call 83; refine (ref_worn w g _ h).mono ?_; rintro _ w9 ⟨rfl, e9⟩; rw [e9]; clear e9 w9))
  have hS0 : w.drew.cell? ⟨g, 0, none⟩ = some (.pointer (some ⟨d.sm, 0, none⟩)) ∧ w.drew.cell? ⟨g, 6 + n, none⟩ = some (.string kb) ∧ Summ w.drew d.sm ∧ Below w.heap.size w w.drew := ⟨c0, hck, hS, (Below.refl _ _).drew⟩
  go_region_held3 (fun w' => w'.cell? ⟨g, 0, none⟩ = some (.pointer (some ⟨d.sm, 0, none⟩)) ∧ w'.cell? ⟨g, 6 + n, none⟩ = some (.string kb) ∧ Summ w' d.sm ∧ Below w.heap.size w w') (first | exact hS0 | exact keep_slot hlt hbx (by assumption)) (first | (go_at_call 19; refine (ref_code hsum sumRef_length sumRef_B kb q d.sm _ ?_ (by omega)).mono ?_; (go_split_ands; assumption); rintro _ wx ⟨rfl, hbx⟩))
  go_wp2
  go_ret2
  have hB := (keep_slot hlt hbx hS0).2.2.2
  exact ⟨rfl, h.below hB hlt, grown_of_below _ hB⟩
end Go.Proofs.YtaokemapkgggoaaGreatDoor

namespace Go.Proofs.YtaokemapkgggoaaGreatDoor
open Go.RowKit

/-- a bit for each of the first i slots that has a key -/
def Kep.bits (k : Kep) : Nat → Int
  | 0 => 0
  | i + 1 => k.bits i + (if (k.key i).size = 0 then 0 else 2 ^ i)
def Kep.withPin (k : Kep) (p : ByteArray) : Kep := { k with pin := p }

/-- a command -/
def Dv.command (d : Dv) (kind : Int) (p : ByteArray) : Dv × Int × List UInt8 :=
  if kind = 1 then d.unlock p
  else if kind = 2 then (if p.size = 0 then (d.lock, 0, []) else (d, 4, []))
  else if kind = 7 then (if p.size = 0 then (d, 0, [b8 (if d.unl then 1 else 0), b8 d.k.tries, b8 (d.k.bits 4)]) else (d, 4, []))
  else if kind = 3 ∨ kind = 4 ∨ kind = 5 then d.slot kind p
  else if kind = 6 then
    (if d.unl = false then (d, 2, []) else if p.size < 1 ∨ 8 < p.size then (d, 4, []) else if 4294967295 ≤ d.k.num then (d, 7, []) else (d.wrote (d.k.withPin p), 0, []))
  else (d, 6, [])

theorem Kep.bits_bd (k : Kep) : ∀ i, i ≤ 4 → 0 ≤ k.bits i ∧ k.bits i < 2 ^ i
  | 0, _ => by simp [Kep.bits]
  | i + 1, h => by
    have := Kep.bits_bd k i (by omega)
    simp only [Kep.bits]
    have e : (2 : Int) ^ (i + 1) = 2 ^ i + 2 ^ i := by rw [Int.pow_succ]; omega
    split <;> omega

set_option maxRecDepth 100000 in
set_option maxHeartbeats 1000000 in
theorem ref_command2 (w : World) (g : Nat) (d : Dv) (p : ByteArray) (h : DvAt w g d) :
    Calls Tryz.prog 57 #[.pointer (some ⟨g, 0, none⟩), .int .i64 2, .string p] w (Left g w (d.command 2 p)) := by
  obtain ⟨c0, c1, c2, c3, c4, c5, c6, c7, c8, c9, c10, c11, -⟩ := h.c
  have f11 := h.frozen 11
  rw [show d.command 2 p = (if p.size = 0 then (d.lock, 0, []) else (d, 4, [])) by unfold Dv.command; rw [if_neg (by omega), if_pos rfl]]
  by_cases h0 : p.size = 0
  · rw [if_pos h0]
    obtain rfl := empty_of_size h0
    go_enter Tryz.func57, Tryz.ntmps57
    go_wp2
    go_ret2
    exact ⟨rfl, Row.setCell h 11 (.bool false), grown_set (World.grownBy.refl _ _) 11 _⟩
  · rw [if_neg h0]
    have hne := toList_ne_nil h0
    go_enter Tryz.func57, Tryz.ntmps57
    go_wp2
    go_ret2
    exact ⟨rfl, h, World.grownBy.refl _ _⟩

set_option maxRecDepth 100000 in
set_option maxHeartbeats 1000000 in
theorem ref_command_none (w : World) (g : Nat) (d : Dv) (kind : Int) (p : ByteArray) (h : DvAt w g d) (hk : kind < 1 ∨ 7 < kind) :
    Calls Tryz.prog 57 #[.pointer (some ⟨g, 0, none⟩), .int .i64 kind, .string p] w (Left g w (d.command kind p)) := by
  rw [show d.command kind p = (d, 6, []) by unfold Dv.command; rw [if_neg (by omega), if_neg (by omega), if_neg (by omega), if_neg (by omega), if_neg (by omega)]]
  have k1 : ¬ kind = 1 := by omega
  have k2 : ¬ kind = 2 := by omega
  have k3 : ¬ kind = 3 := by omega
  have k4 : ¬ kind = 4 := by omega
  have k5 : ¬ kind = 5 := by omega
  have k6 : ¬ kind = 6 := by omega
  have k7 : ¬ kind = 7 := by omega
  go_enter Tryz.func57, Tryz.ntmps57
  go_wp2
  go_ret2
  exact ⟨rfl, h, World.grownBy.refl _ _⟩

end Go.Proofs.YtaokemapkgggoaaGreatDoor
