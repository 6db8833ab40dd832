import Derived.Test.YtaokemapkgggoaaGreatDoorRefRoot
import Derived.Test.YtaokemapkgggoaaGreatDoorRefPrimes
namespace Go.Proofs.YtaokemapkgggoaaGreatDoor
open Go.RowKit

theorem map_snoc (f : Int → Int) (l : List Int) (i : Nat) (h : i < l.length) : (l.take (i + 1)).map f = (l.take i).map f ++ [f (l.getD i 0)] := by
  rw [List.take_succ_eq_append_getElem h, List.map_append, show l.getD i 0 = l[i] by simp [List.getD, h]]
  rfl
theorem P64_len : P64.length = 64 := rfl

set_option maxRecDepth 100000 in
set_option maxHeartbeats 1000000 in
theorem ref_constants (w : World) :
    Calls Tryz.prog 12 #[] w fun r w' => ∃ kv hv, r = .returned (.tuple #[kv, hv]) ∧ Own w' w.heap.size .i64 3 kv (P64.map fun p => rootL p true) ∧ Own w' w.heap.size .i64 3 hv ((P64.take 8).map fun p => rootL p false) ∧ Sep kv hv ∧ Below w.heap.size w w' := by
  obtain ⟨rt, HT⟩ : ∃ rt : Int → Int, Hid (rt = fun p => rootL p true) := ⟨_, rfl⟩
  obtain ⟨rf, HF⟩ : ∃ rf : Int → Int, Hid (rf = fun p => rootL p false) := ⟨_, rfl⟩
  have ht : ∀ (p : Int) (w : World), Calls Tryz.prog 38 #[.int .i64 p, .bool true] w fun r w' => r = .returned (.int .i64 (rt p)) ∧ Below w.heap.size w w' := by rw [HT.out]; exact ref_root_true
  have hf : ∀ (p : Int) (w : World), Calls Tryz.prog 38 #[.int .i64 p, .bool false] w fun r w' => r = .returned (.int .i64 (rf p)) ∧ Below w.heap.size w w' := by rw [HF.out]; exact ref_root_false
  rw [← HT.out, ← HF.out]
  have HTc : Hid _ := ht
  have HFc : Hid _ := hf
  clear ht hf
  obtain ⟨ps, HP⟩ : ∃ ps, Hid (ps = P64) := ⟨_, rfl⟩
  have hp64 : Hid (ps.length = 64) := by show _ = _; rw [HP.out, P64_len]
  rw [← HP.out]
  go_enter Tryz.func12, Tryz.ntmps12
  go_wp2_with fail
  refine (ref_primes _).mono ?_
  rintro _ w1 ⟨v, rfl, hown, hB⟩
  rw [← HP.out] at hown
  obtain ⟨gl, cl, hv, hgl, -, -, -⟩ := hown.at (by rw [hp64.out]; omega)
  rw [hp64.out] at hv
  subst hv
  go_wp2
  go_loopw [3, 4, 5] (fun kv hv c wr => ∃ i : Nat, i ≤ 64 ∧ c = .int .i64 i ∧ Own wr w.heap.size .i64 3 kv ((ps.take i).map rt) ∧ Own wr w.heap.size .i64 3 hv ((ps.take (min i 8)).map rf) ∧ Own wr w.heap.size .i64 3 (.slice (some ⟨gl, 0, none⟩) 64 cl) ps ∧ Sep kv hv ∧ Sep kv (.slice (some ⟨gl, 0, none⟩) 64 cl) ∧ Sep hv (.slice (some ⟨gl, 0, none⟩) 64 cl) ∧ Below w.heap.size w wr)
    (fun _ _ c _ => 64 - (intOf c).toNat)
  case atStart => exact ⟨0, by omega, rfl, by simpa using Own.nil _ _ _ _, by simpa using Own.nil _ _ _ _, hown, Sep.nil _, Sep.nil _, Sep.nil _, hB⟩
  case round =>
    clear hown hB
    obtain ⟨i, hi, rfl, hk, hh, hl, s1, s2, s3, hB⟩ := hrel
    have hps := hp64.out
    by_cases hlt : i < 64
    · have hc := hl.cellAt i (by omega)
      have hlk : ((ps.take i).map rt).length = i := by simp; omega
      have hlh : ((ps.take (min i 8)).map rf).length = min i 8 := by simp; omega
      have HKs : Hid ((ps.take (i + 1)).map rt = (ps.take i).map rt ++ [rt (ps.getD i 0)]) := by
        exact map_snoc rt ps i (by omega)
      have HHs : Hid (i < 8 → (ps.take (min (i + 1) 8)).map rf = (ps.take (min i 8)).map rf ++ [rf (ps.getD i 0)]) := by
        intro h8
        rw [show min (i + 1) 8 = i + 1 by omega, show min i 8 = i by omega]; exact map_snoc rf ps i (by omega)
      have HHn : Hid (8 ≤ i → (ps.take (min (i + 1) 8)).map rf = (ps.take (min i 8)).map rf) := by
        intro h8
        rw [show min (i + 1) 8 = 8 by omega, show min i 8 = 8 by omega]
      obtain ⟨ks, HKv⟩ : ∃ ks, Hid (ks = (ps.take i).map rt) := ⟨_, rfl⟩
      obtain ⟨hs, HHv⟩ : ∃ hs, Hid (hs = (ps.take (min i 8)).map rf) := ⟨_, rfl⟩
      rw [← HKv.out] at hk HKs hlk
      rw [← HHv.out] at hh HHs HHn hlh
      have HLk : Hid _ := hlk
      have HLh : Hid _ := hlh
      clear hlk hlh hps
      generalize hq : ps.getD i 0 = q at *
      have HQ : Hid _ := hq
      clear hq
      go_wp2_with fail
      refine (HTc.out q _).mono ?_
      rintro _ w2 ⟨rfl, hb2⟩
      have k2 := hk.below hb2 (Nat.le_refl _)
      have h2 := hh.below hb2 (Nat.le_refl _)
      have l2 := hl.below hb2 (Nat.le_refl _)
      have B2 := hB.trans (hb2.mono hB.size)
      have z2 := B2.size
      clear hk hh hl hB hb2 hc
      by_cases h8 : i < 8
      · have h8' : (i : Int) < 8 := by omega
        go_wp2_with (first | (at_builtin; refine wpList_app1 rfl (.tmp 11) (.tmp 17) 42 3 .i64 8 rfl slI w.heap.size _ ks rfl k2 _ _ _ rfl (by rw [HLk.out]; omega) z2 ?_; intro kv' w3 k3 hg3 hat3; have h3 := h2.grown hg3 s1; have l3 := l2.grown hg3 s2; have s1' := s1.app h2 (Nat.le_succ _) hat3; have s2' := s2.app l2 (Nat.le_succ _) hat3; have B3 := below_grown B2 hg3 k2 z2 (Nat.le_refl _); have hc3 := l3.cellAt i (by rw [hp64.out]; omega); rw [HQ.out] at hc3; clear hg3 hat3) | fail)
        refine (HFc.out q _).mono ?_
        rintro _ w4 ⟨rfl, hb4⟩
        have k4 := k3.below hb4 (Nat.le_refl _)
        have h4 := h3.below hb4 (Nat.le_refl _)
        have l4 := l3.below hb4 (Nat.le_refl _)
        have B4 := B3.trans (hb4.mono B3.size)
        have z4 := B4.size
        clear hb4 k3 h3 l3 B3 hc3 k2 h2 l2 B2 z2
        go_wp2_with (at_builtin; refine wpList_app1 rfl (.tmp 21) (.tmp 27) 42 3 .i64 8 rfl slI w.heap.size _ hs rfl h4 _ _ _ rfl (by rw [HLh.out]; omega) z4 ?_; intro hv' w5 h5 hg5 hat5)
        refine ⟨⟨i + 1, by omega, by go_num, by rw [HKs.out]; exact k4.grown hg5 s1'.symm, by rw [HHs.out h8]; exact h5, l4.grown hg5 s3, (s1'.symm.app k4 (Nat.le_succ _) hat5).symm, s2', s3.app l4 (Nat.le_succ _) hat5, below_grown B4 hg5 h4 z4 (Nat.le_refl _)⟩, by simp [intOf]; omega⟩
      · have h8' : ¬ (i : Int) < 8 := by omega
        go_wp2_with (first | (at_builtin; refine wpList_app1 rfl (.tmp 11) (.tmp 17) 42 3 .i64 8 rfl slI w.heap.size _ ks rfl k2 _ _ _ rfl (by rw [HLk.out]; omega) z2 ?_; intro kv' w3 k3 hg3 hat3; have h3 := h2.grown hg3 s1; have l3 := l2.grown hg3 s2; have s1' := s1.app h2 (Nat.le_succ _) hat3; have s2' := s2.app l2 (Nat.le_succ _) hat3; have B3 := below_grown B2 hg3 k2 z2 (Nat.le_refl _); have hc3 := l3.cellAt i (by rw [hp64.out]; omega); rw [HQ.out] at hc3; clear hg3 hat3) | fail)
        refine ⟨⟨i + 1, by omega, by go_num, by rw [HKs.out]; exact k3, by rw [HHn.out (by omega)]; exact h3, l3, s1', s2', s3, B3⟩, by simp [intOf]; omega⟩
    · have hi64 : i = 64 := by omega
      have ek : (ps.take i).map rt = ps.map rt := by rw [List.take_of_length_le (by omega)]
      have eh : (ps.take (min i 8)).map rf = (ps.take 8).map rf := by rw [hi64]; rfl
      rw [ek] at hk
      rw [eh] at hh
      clear hi64 ek eh hps
      go_wp2
      go_ret2
      exact ⟨_, _, rfl, hk, hh, s1, hB⟩
end Go.Proofs.YtaokemapkgggoaaGreatDoor
