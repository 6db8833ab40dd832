import Derived.Test.YtaokemapkgggoaaDoorTd02
import Derived.Test.YtaokemapkgggoaaDoorTd03
import Derived.Test.YtaokemapkgggoaaDoorTd04
import Derived.Test.YtaokemapkgggoaaDoorTd05
namespace Go.Proofs.YtaokemapkgggoaaDoor
open Go.RowKit

set_option linter.unusedSimpArgs false in
set_option maxRecDepth 100000 in
set_option maxHeartbeats 16000000 in
theorem keep_Torn_O0 (w : World) (c kind slot fresh power : Int) (ko : Option Addr) (kl kc : Nat) (G : Glob w) (hI : (-9223372036854775808 ≤ c ∧ c ≤ 9223372036854775807) ∧ (-9223372036854775808 ≤ kind ∧ kind ≤ 9223372036854775807) ∧ (-9223372036854775808 ≤ slot ∧ slot ≤ 9223372036854775807) ∧ (-9223372036854775808 ≤ fresh ∧ fresh ≤ 9223372036854775807) ∧ (-9223372036854775808 ≤ power ∧ power ≤ 9223372036854775807)) (hK : IntsAt w ko kl) (hkl : kl < 9223372036854775808) (hkd : (kind.tmod 2 == 0) = false) (hpw : pickN power 130 < 101) :
    Calls Tryd.prog 8 #[.int .i64 c, .slice ko kl kc, .int .i64 kind, .int .i64 slot, .int .i64 fresh, .int .i64 power] w fun r w' => r = .returned (.bool true) ∧ Below w.heap.size w w' := by
  obtain ⟨⟨hc0, hc1⟩, ⟨hk0, hk1⟩, ⟨hs0, hs1⟩, ⟨hf0, hf1⟩, ⟨hp0, hp1⟩⟩ := hI
  have hfine := keep_fine w c ko kl kc G hc0 hc1 hK hkl
  obtain ⟨n, HN⟩ : ∃ n, Hid (n = pickN slot 4) := ⟨_, rfl⟩
  have hn4 : n < 4 := by rw [HN.out]; exact pickN_lt _ (by omega)
  have hpick : Hid (∀ W, Calls Tryd.prog 20 #[.int .i64 slot, .int .i64 4] W fun r w' => r = .returned (.int .i64 n) ∧ w' = W) := fun W => by rw [HN.out]; exact keep_pick _ 4 W hs0 hs1 (by omega) (by omega)
  obtain ⟨pw, HPW⟩ : ∃ pw, Hid (pw = pickN power 130) := ⟨_, rfl⟩
  rw [← HPW.out] at hpw
  have hpick2 : Hid (∀ W, Calls Tryd.prog 20 #[.int .i64 power, .int .i64 130] W fun r w' => r = .returned (.int .i64 pw) ∧ w' = W) := fun W => by rw [HPW.out]; exact keep_pick _ 130 W hp0 hp1 (by omega) (by omega)
  have hpw3 : pw < 130 := by rw [HPW.out]; exact pickN_lt _ (by omega)
  have hpi : ¬ (101 : Int) ≤ pw := by omega
  obtain ⟨kb, HKB⟩ : ∃ kb, Hid (kb = str (keyL6 fresh)) := ⟨_, rfl⟩
  obtain ⟨lk1, lk2⟩ := keyL6_len fresh
  obtain ⟨lp1, lp2⟩ := pinL_len c
  obtain ⟨lf1, lf2⟩ := pinL_len fresh
  have hkz : kb.size ≤ 20 := by rw [HKB.out, str_size]; exact lk2
  have hkey : Hid (∀ W, Calls Tryd.prog 11 #[.int .i64 fresh] W fun r w' => r = .returned (.string kb) ∧ Below W.heap.size W w') := fun W => by rw [HKB.out]; exact keep_key fresh W hf0 hf1
  obtain ⟨f3, HF3⟩ : ∃ f3, Hid (f3 = str (told 3 (UInt8.ofNat n :: keyL6 fresh))) := ⟨_, rfl⟩
  have hfr3 : Hid (∀ W, Calls Tryd.prog 16 #[.int .i64 3, .string (strOfNums [(n : Int)] ++ kb)] W fun r w' => r = .returned (.string f3) ∧ Below W.heap.size W w') := fun W => frame_is 3 _ (UInt8.ofNat n :: keyL6 fresh) (one_str n _ _ HKB.out) W (by omega) (by omega) (by simp only [List.length_cons]; omega) f3 HF3.out
  have hn8 : (n : Int) % 256 = n := by omega
  have hw8 : ∀ x : Int, IntKind.u8.wrap x = x % 256 := u8_wrap
  have hz1 := size1
  have hz2 : 1 + kb.size ≤ 9223372036854775807 := by omega
  have hx4 : (UInt8.ofNat n).toNat = n := by simp; omega
  have hkp : ¬ kind.tmod 2 = 0 := by simpa using hkd
  have hkn : (kind.tmod 2 != 0) = true := by simpa using hkp
  clear hK
  go_enter Tryd.func8, Tryd.ntmps8
  go_wp2_with (first | (go_at_call 22; refine hfine.mono ?_; rintro _ w1 ⟨g, d, ss, rfl, F, K⟩; clear hfine; have HL4 : Hid ((strs ss).length = 4) := (by show _ = _; rw [strs_length]; exact F.len)) | (refine wpList_allocR rfl 45 rfl 4 (.string ⟨#[]⟩) arr4s ?_; go_simp) | (refine wpList_storeMA rfl 45 _ _ rfl w1.heap.size rfl rfl (strs ss) rfl 45 _ 4 (.string ⟨#[]⟩) arr4s HL4.out (zrow_length _ _) (strs_one _) ?_; intro w2 hr2 hb2; have HH := HoldAt.made K hr2 hb2; clear K hr2 hb2; go_simp) | (go_at_call 20; refine (hpick.out _).mono ?_; rintro _ wk ⟨rfl, ek⟩; rw [ek]; clear ek wk))
  clear hpick
  have hkS : ∀ X X' : World, HoldAt w X g d w1.heap.size ss → Below X.heap.size X X' → HoldAt w X' g d w1.heap.size ss := fun X X' h hb => h.next hb
  have hS0 : HoldAt w w2.drew g d w1.heap.size ss := HH.next ((Below.refl _ _).drew)
  refine Code.wp_mono (Q := fun e_ a_ w_ => e_ = .normal ∧ (∃ v : Value, a_ = Act.mk (List.toArray ((.int .i64 c) :: (.slice ko kl kc) :: (.int .i64 kind) :: (.int .i64 slot) :: (.int .i64 fresh) :: (.int .i64 power) :: undef :: undef :: undef :: undef :: undef :: undef :: (.bool false) :: (.pointer (some ⟨g, 0, none⟩)) :: (.pointer (some ⟨w1.heap.size, 0, none⟩)) :: (.int .i64 n) :: (.string f3) :: undef :: undef :: undef :: undef :: undef :: undef :: undef :: undef :: undef :: (.tuple #[.pointer (some ⟨g, 0, none⟩), .agg (strs ss).toArray]) :: (.int .i64 c) :: (.slice ko kl kc) :: (.tuple #[.pointer (some ⟨g, 0, none⟩), .agg (strs ss).toArray]) :: (.pointer (some ⟨g, 0, none⟩)) :: (.agg (strs ss).toArray) :: (.pointer (some ⟨g, 0, none⟩)) :: (.bool false) :: (.int .i64 slot) :: (.int .i64 n) :: (.int .i64 n) :: (.int .u8 n) :: v :: (.string (strOfNums [(n : Int)])) :: (.int .i64 fresh) :: (.string kb) :: (.string (strOfNums [(n : Int)] ++ kb)) :: (.string f3) :: undef :: undef :: undef :: undef :: undef :: undef :: undef :: undef :: undef :: undef :: undef :: undef :: undef :: undef :: undef :: undef :: undef :: undef :: undef :: undef :: undef :: undef :: undef :: undef :: undef :: undef :: undef :: undef :: undef :: undef :: undef :: undef :: undef :: undef :: undef :: undef :: undef :: undef :: undef :: undef :: undef :: undef :: undef :: undef :: undef :: undef :: undef :: undef :: undef :: undef :: undef :: undef :: undef :: undef :: undef :: undef :: undef :: undef :: undef :: undef :: undef :: undef :: undef :: undef :: undef :: undef :: undef :: undef :: undef :: undef :: undef :: undef :: undef :: undef :: undef :: undef :: undef :: undef :: undef :: undef :: undef :: undef :: undef :: undef :: undef :: undef :: undef :: undef :: [])) []) ∧ HoldAt w w_ g d w1.heap.size ss) ?_ ?_
  case refine_2 =>
    refine wp_region_letter (S := fun X => HoldAt w X g d w1.heap.size ss) (by kernel_rfl) hS0 ?_
    intro w0 hS_w0
    refine wpAnyH_take (i := 0) (v := .int .i64 n) rfl (by kernel_rfl) (by kernel_rfl) (by kernel_rfl) (fun _ _ _ h => no_panic h.1) (yields_of rfl (fun w' hw' => by clear hw'; go_simp)) hS_w0 ?_
    try simp only [List.getElem_toArray, List.getElem_cons_succ, List.getElem_cons_zero, Act.put, List.setIfInBounds_toArray, List.set_cons_succ, List.set_cons_zero]
    refine wpAnyH_take (i := 1) (v := .int .u8 n) rfl (by kernel_rfl) (by kernel_rfl) (by kernel_rfl) (fun _ _ _ h => no_panic h.1) (yields_of rfl (fun w' hw' => by clear hw'; go_simp)) hS_w0 ?_
    try simp only [List.getElem_toArray, List.getElem_cons_succ, List.getElem_cons_zero, Act.put, List.setIfInBounds_toArray, List.set_cons_succ, List.set_cons_zero]
    refine wpAnyH_take (i := 4) (v := .int .i64 fresh) rfl (by kernel_rfl) (by kernel_rfl) (by kernel_rfl) (fun _ _ _ h => no_panic h.1) (yields_of rfl (fun w' hw' => by clear hw'; go_simp)) hS_w0 ?_
    try simp only [List.getElem_toArray, List.getElem_cons_succ, List.getElem_cons_zero, Act.put, List.setIfInBounds_toArray, List.set_cons_succ, List.set_cons_zero]
    refine wpAnyH_ready (rs := [2, 5]) (by kernel_rfl) (by simp) (AllReadyH.cons (i := 2) rfl (fun K hK => ?_) (AllReadyH.cons (i := 5) rfl (fun K hK => ?_) AllReadyH.nil))
    · have hS_x1 := hkS _ _ hS_w0 (below_built w0 (.cells #[.int .u8 (n : Int)] 5))
      have r2_x1 := row_built w0 (n : Int)
      refine step_of rfl (wp_val (v := .slice (some ⟨w0.heap.size, 0, none⟩) 1 1) (w' := w0.alloc (.cells #[.int .u8 (n : Int)] 5)) (by go_simp) (hK.out _ _ hS_x1 (fun _ => ?_)))
      clear hK K
      try simp only [List.getElem_toArray, List.getElem_cons_succ, List.getElem_cons_zero, Act.put, List.setIfInBounds_toArray, List.set_cons_succ, List.set_cons_zero]
      generalize w0.alloc (.cells #[.int .u8 (n : Int)] 5) = x1 at *
      refine wpAnyH_ready (rs := [3, 5]) (by kernel_rfl) (by simp) (AllReadyH.cons (i := 3) rfl (fun K hK => ?_) (AllReadyH.cons (i := 5) rfl (fun K hK => ?_) AllReadyH.nil))
      · have hcv := run_convR x1 (w0.heap.size) [(n : Int)] 1 1 rfl r2_x1.range
        refine step_of rfl (wp_val (v := .string (strOfNums [(n : Int)])) (w' := x1) (by go_simp) (hK.out _ _ hS_x1 (fun _ => ?_)))
        clear hK K hcv
        try simp only [List.getElem_toArray, List.getElem_cons_succ, List.getElem_cons_zero, Act.put, List.setIfInBounds_toArray, List.set_cons_succ, List.set_cons_zero]
        refine wpAnyH_ready (rs := [5]) (by kernel_rfl) (by simp) (AllReadyH.cons (i := 5) rfl (fun K hK => ?_) AllReadyH.nil)
        refine step_of rfl ?_
        try simp only [List.getElem_toArray, List.getElem_cons_succ, List.getElem_cons_zero, Act.put, List.setIfInBounds_toArray, List.set_cons_succ, List.set_cons_zero]
        refine wp_callC 11 #[.int .i64 fresh] (by go_simp) ?_
        refine (hkey.out x1).mono ?_
        rintro _ x2 ⟨rfl, hb_x2⟩
        have hS_x2 := hkS _ _ hS_x1 hb_x2
        have r2_x1_x2 := r2_x1.below hb_x2 r2_x1.lt
        refine ⟨_, rfl, hK.out _ _ hS_x2 (fun _ => ?_)⟩
        clear hK K
        try simp only [List.getElem_toArray, List.getElem_cons_succ, List.getElem_cons_zero, Act.put, List.setIfInBounds_toArray, List.set_cons_succ, List.set_cons_zero]
        refine wpAnyH_take (i := 6) (v := .string (strOfNums [(n : Int)] ++ kb)) rfl (by kernel_rfl) (by kernel_rfl) (by kernel_rfl) (fun _ _ _ h => no_panic h.1) (yields_of rfl (fun w' hw' => by clear hw'; go_simp)) hS_x2 ?_
        try simp only [List.getElem_toArray, List.getElem_cons_succ, List.getElem_cons_zero, Act.put, List.setIfInBounds_toArray, List.set_cons_succ, List.set_cons_zero]
        refine wpAnyH_ready (rs := [7]) (by kernel_rfl) (by simp) (AllReadyH.cons (i := 7) rfl (fun K hK => ?_) AllReadyH.nil)
        refine step_of rfl ?_
        try simp only [List.getElem_toArray, List.getElem_cons_succ, List.getElem_cons_zero, Act.put, List.setIfInBounds_toArray, List.set_cons_succ, List.set_cons_zero]
        refine wp_callC 16 #[.int .i64 3, .string (strOfNums [(n : Int)] ++ kb)] (by go_simp) ?_
        refine (hfr3.out x2).mono ?_
        rintro _ x3 ⟨rfl, hb_x3⟩
        have hS_x3 := hkS _ _ hS_x2 hb_x3
        have r2_x1_x2_x3 := r2_x1_x2.below hb_x3 r2_x1_x2.lt
        refine ⟨_, rfl, hK.out _ _ hS_x3 (fun _ => ?_)⟩
        clear hK K
        try simp only [List.getElem_toArray, List.getElem_cons_succ, List.getElem_cons_zero, Act.put, List.setIfInBounds_toArray, List.set_cons_succ, List.set_cons_zero]
        refine wpAnyH_take (i := 8) (v := .string f3) rfl (by kernel_rfl) (by kernel_rfl) (by kernel_rfl) (fun _ _ _ h => no_panic h.1) (yields_of rfl (fun w' hw' => by clear hw'; go_simp)) hS_x3 ?_
        try simp only [List.getElem_toArray, List.getElem_cons_succ, List.getElem_cons_zero, Act.put, List.setIfInBounds_toArray, List.set_cons_succ, List.set_cons_zero]
        refine wpAnyH_done (by kernel_rfl) ⟨rfl, ?_⟩ _
        exact ⟨⟨_, rfl⟩, hS_x3⟩
      · refine step_of rfl ?_
        try simp only [List.getElem_toArray, List.getElem_cons_succ, List.getElem_cons_zero, Act.put, List.setIfInBounds_toArray, List.set_cons_succ, List.set_cons_zero]
        refine wp_callC 11 #[.int .i64 fresh] (by go_simp) ?_
        refine (hkey.out x1).mono ?_
        rintro _ x4 ⟨rfl, hb_x4⟩
        have hS_x4 := hkS _ _ hS_x1 hb_x4
        have r2_x1_x4 := r2_x1.below hb_x4 r2_x1.lt
        refine ⟨_, rfl, hK.out _ _ hS_x4 (fun _ => ?_)⟩
        clear hK K
        try simp only [List.getElem_toArray, List.getElem_cons_succ, List.getElem_cons_zero, Act.put, List.setIfInBounds_toArray, List.set_cons_succ, List.set_cons_zero]
        refine wpAnyH_ready (rs := [3]) (by kernel_rfl) (by simp) (AllReadyH.cons (i := 3) rfl (fun K hK => ?_) AllReadyH.nil)
        have hcv := run_convR x4 (w0.heap.size) [(n : Int)] 1 1 rfl r2_x1_x4.range
        refine step_of rfl (wp_val (v := .string (strOfNums [(n : Int)])) (w' := x4) (by go_simp) (hK.out _ _ hS_x4 (fun _ => ?_)))
        clear hK K hcv
        try simp only [List.getElem_toArray, List.getElem_cons_succ, List.getElem_cons_zero, Act.put, List.setIfInBounds_toArray, List.set_cons_succ, List.set_cons_zero]
        refine wpAnyH_take (i := 6) (v := .string (strOfNums [(n : Int)] ++ kb)) rfl (by kernel_rfl) (by kernel_rfl) (by kernel_rfl) (fun _ _ _ h => no_panic h.1) (yields_of rfl (fun w' hw' => by clear hw'; go_simp)) hS_x4 ?_
        try simp only [List.getElem_toArray, List.getElem_cons_succ, List.getElem_cons_zero, Act.put, List.setIfInBounds_toArray, List.set_cons_succ, List.set_cons_zero]
        refine wpAnyH_ready (rs := [7]) (by kernel_rfl) (by simp) (AllReadyH.cons (i := 7) rfl (fun K hK => ?_) AllReadyH.nil)
        refine step_of rfl ?_
        try simp only [List.getElem_toArray, List.getElem_cons_succ, List.getElem_cons_zero, Act.put, List.setIfInBounds_toArray, List.set_cons_succ, List.set_cons_zero]
        refine wp_callC 16 #[.int .i64 3, .string (strOfNums [(n : Int)] ++ kb)] (by go_simp) ?_
        refine (hfr3.out x4).mono ?_
        rintro _ x5 ⟨rfl, hb_x5⟩
        have hS_x5 := hkS _ _ hS_x4 hb_x5
        have r2_x1_x4_x5 := r2_x1_x4.below hb_x5 r2_x1_x4.lt
        refine ⟨_, rfl, hK.out _ _ hS_x5 (fun _ => ?_)⟩
        clear hK K
        try simp only [List.getElem_toArray, List.getElem_cons_succ, List.getElem_cons_zero, Act.put, List.setIfInBounds_toArray, List.set_cons_succ, List.set_cons_zero]
        refine wpAnyH_take (i := 8) (v := .string f3) rfl (by kernel_rfl) (by kernel_rfl) (by kernel_rfl) (fun _ _ _ h => no_panic h.1) (yields_of rfl (fun w' hw' => by clear hw'; go_simp)) hS_x5 ?_
        try simp only [List.getElem_toArray, List.getElem_cons_succ, List.getElem_cons_zero, Act.put, List.setIfInBounds_toArray, List.set_cons_succ, List.set_cons_zero]
        refine wpAnyH_done (by kernel_rfl) ⟨rfl, ?_⟩ _
        exact ⟨⟨_, rfl⟩, hS_x5⟩
    · refine step_of rfl ?_
      try simp only [List.getElem_toArray, List.getElem_cons_succ, List.getElem_cons_zero, Act.put, List.setIfInBounds_toArray, List.set_cons_succ, List.set_cons_zero]
      refine wp_callC 11 #[.int .i64 fresh] (by go_simp) ?_
      refine (hkey.out w0).mono ?_
      rintro _ x6 ⟨rfl, hb_x6⟩
      have hS_x6 := hkS _ _ hS_w0 hb_x6
      refine ⟨_, rfl, hK.out _ _ hS_x6 (fun _ => ?_)⟩
      clear hK K
      try simp only [List.getElem_toArray, List.getElem_cons_succ, List.getElem_cons_zero, Act.put, List.setIfInBounds_toArray, List.set_cons_succ, List.set_cons_zero]
      refine wpAnyH_ready (rs := [2]) (by kernel_rfl) (by simp) (AllReadyH.cons (i := 2) rfl (fun K hK => ?_) AllReadyH.nil)
      have hS_x7 := hkS _ _ hS_x6 (below_built x6 (.cells #[.int .u8 (n : Int)] 5))
      have r2_x7 := row_built x6 (n : Int)
      refine step_of rfl (wp_val (v := .slice (some ⟨x6.heap.size, 0, none⟩) 1 1) (w' := x6.alloc (.cells #[.int .u8 (n : Int)] 5)) (by go_simp) (hK.out _ _ hS_x7 (fun _ => ?_)))
      clear hK K
      try simp only [List.getElem_toArray, List.getElem_cons_succ, List.getElem_cons_zero, Act.put, List.setIfInBounds_toArray, List.set_cons_succ, List.set_cons_zero]
      generalize x6.alloc (.cells #[.int .u8 (n : Int)] 5) = x7 at *
      refine wpAnyH_ready (rs := [3]) (by kernel_rfl) (by simp) (AllReadyH.cons (i := 3) rfl (fun K hK => ?_) AllReadyH.nil)
      have hcv := run_convR x7 (x6.heap.size) [(n : Int)] 1 1 rfl r2_x7.range
      refine step_of rfl (wp_val (v := .string (strOfNums [(n : Int)])) (w' := x7) (by go_simp) (hK.out _ _ hS_x7 (fun _ => ?_)))
      clear hK K hcv
      try simp only [List.getElem_toArray, List.getElem_cons_succ, List.getElem_cons_zero, Act.put, List.setIfInBounds_toArray, List.set_cons_succ, List.set_cons_zero]
      refine wpAnyH_take (i := 6) (v := .string (strOfNums [(n : Int)] ++ kb)) rfl (by kernel_rfl) (by kernel_rfl) (by kernel_rfl) (fun _ _ _ h => no_panic h.1) (yields_of rfl (fun w' hw' => by clear hw'; go_simp)) hS_x7 ?_
      try simp only [List.getElem_toArray, List.getElem_cons_succ, List.getElem_cons_zero, Act.put, List.setIfInBounds_toArray, List.set_cons_succ, List.set_cons_zero]
      refine wpAnyH_ready (rs := [7]) (by kernel_rfl) (by simp) (AllReadyH.cons (i := 7) rfl (fun K hK => ?_) AllReadyH.nil)
      refine step_of rfl ?_
      try simp only [List.getElem_toArray, List.getElem_cons_succ, List.getElem_cons_zero, Act.put, List.setIfInBounds_toArray, List.set_cons_succ, List.set_cons_zero]
      refine wp_callC 16 #[.int .i64 3, .string (strOfNums [(n : Int)] ++ kb)] (by go_simp) ?_
      refine (hfr3.out x7).mono ?_
      rintro _ x8 ⟨rfl, hb_x8⟩
      have hS_x8 := hkS _ _ hS_x7 hb_x8
      have r2_x7_x8 := r2_x7.below hb_x8 r2_x7.lt
      refine ⟨_, rfl, hK.out _ _ hS_x8 (fun _ => ?_)⟩
      clear hK K
      try simp only [List.getElem_toArray, List.getElem_cons_succ, List.getElem_cons_zero, Act.put, List.setIfInBounds_toArray, List.set_cons_succ, List.set_cons_zero]
      refine wpAnyH_take (i := 8) (v := .string f3) rfl (by kernel_rfl) (by kernel_rfl) (by kernel_rfl) (fun _ _ _ h => no_panic h.1) (yields_of rfl (fun w' hw' => by clear hw'; go_simp)) hS_x8 ?_
      try simp only [List.getElem_toArray, List.getElem_cons_succ, List.getElem_cons_zero, Act.put, List.setIfInBounds_toArray, List.set_cons_succ, List.set_cons_zero]
      refine wpAnyH_done (by kernel_rfl) ⟨rfl, ?_⟩ _
      exact ⟨⟨_, rfl⟩, hS_x8⟩
  rintro _ _ w3 ⟨rfl, ⟨v, rfl⟩, HH3⟩
  clear HH hS0 hkS
  have HH := HH3
  clear HH3
  obtain ⟨e1, hfd, F1⟩ := torn_slot F (UInt8.ofNat n) n hx4 hn4 (keyL6 fresh) lk2 (by omega) pw
  rw [if_pos hpw] at hfd F1
  obtain ⟨e2, hfd2, F2⟩ := F1.right lp1 lp2 (by omega)
  obtain ⟨D0, HD0⟩ : ∃ D0 : Dv, Hid (D0 = ({ d with cut := (pw : Int) } : Dv)) := ⟨_, rfl⟩
  obtain ⟨D1, HD1⟩ : ∃ D1, Hid (D1 = e1.booted) := ⟨_, rfl⟩
  obtain ⟨a0, HA0⟩ : ∃ a0, Hid (a0 = str (told 0 [])) := ⟨_, rfl⟩
  obtain ⟨sB, HSB⟩ : ∃ sB, Hid (sB = (⟨#[]⟩ : ByteArray)) := ⟨_, rfl⟩
  obtain ⟨pb, HPB⟩ : ∃ pb, Hid (pb = str (pinL c)) := ⟨_, rfl⟩
  obtain ⟨pf, HPF⟩ : ∃ pf, Hid (pf = str (pinL fresh)) := ⟨_, rfl⟩
  have hpinC : Hid (∀ W, Calls Tryd.prog 17 #[.int .i64 c] W fun r w' => r = .returned (.string pb) ∧ Below W.heap.size W w') := fun W => by rw [HPB.out]; exact keep_pin c W hc0 hc1
  have hpinF : Hid (∀ W, Calls Tryd.prog 17 #[.int .i64 fresh] W fun r w' => r = .returned (.string pf) ∧ Below W.heap.size W w') := fun W => by rw [HPF.out]; exact keep_pin fresh W hf0 hf1
  obtain ⟨f6, HF6⟩ : ∃ f6, Hid (f6 = str (told 6 (pinL fresh))) := ⟨_, rfl⟩
  have hfr6 : Hid (∀ W, Calls Tryd.prog 16 #[.int .i64 6, .string pf] W fun r w' => r = .returned (.string f6) ∧ Below W.heap.size W w') := fun W => frame_is 6 _ (pinL fresh) (by rw [HPF.out]; exact str_list _) W (by omega) (by omega) (by omega) f6 HF6.out
  have hfr0 : Hid (∀ W, Calls Tryd.prog 16 #[.int .i64 0, .string ⟨#[]⟩] W fun r w' => r = .returned (.string a0) ∧ Below W.heap.size W w') := fun W => frame_is 0 _ [] rfl W (by omega) (by omega) (by decide) a0 HA0.out
  obtain ⟨f1, HF1⟩ : ∃ f1, Hid (f1 = str (told 1 (pinL c))) := ⟨_, rfl⟩
  have hfr1 : Hid (∀ W, Calls Tryd.prog 16 #[.int .i64 1, .string pb] W fun r w' => r = .returned (.string f1) ∧ Below W.heap.size W w') := fun W => frame_is 1 _ (pinL c) (by rw [HPB.out]; exact str_list _) W (by omega) (by omega) (by omega) f1 HF1.out
  have hcut : Hid (∀ W, KdAt w W g d → Calls Tryd.prog 24 #[.pointer (some ⟨g, 0, none⟩), .int .i64 pw] W fun r w' => r = .returned (.int .i64 0) ∧ KdAt w w' g D0 ∧ W.grownBy w' (some g)) := fun W K => by rw [HD0.out]; exact keep_Cut K pw (by omega)
  have hfeed : Hid (∀ W, KdAt w W g D0 → Calls Tryd.prog 19 #[.pointer (some ⟨g, 0, none⟩), .string f3] W fun r w' => r = .returned (.string sB) ∧ KdAt w w' g e1 ∧ W.grownBy w' (some g)) := fun W K => by rw [HSB.out]; exact keep_fed G (by rw [HD0.out] at K; exact K) hfd (by rw [told_len]; simp only [List.length_cons]; omega) _ HF3.out
  have hboot : Hid (∀ W, KdAt w W g e1 → Calls Tryd.prog 25 #[.pointer (some ⟨g, 0, none⟩)] W fun r w' => r = .returned (.int .i64 0) ∧ KdAt w w' g D1 ∧ W.grownBy w' (some g)) := fun W K => by rw [HD1.out]; exact keep_Boot K
  have hfeed1 : Hid (∀ W, KdAt w W g D1 → Calls Tryd.prog 19 #[.pointer (some ⟨g, 0, none⟩), .string f1] W fun r w' => r = .returned (.string a0) ∧ KdAt w w' g e2 ∧ W.grownBy w' (some g)) := fun W K => by rw [HA0.out]; exact keep_fed G (by rw [HD1.out] at K; exact K) hfd2 (by rw [told_len]; omega) _ HF1.out
  have hsb : (sB.toList == a0.toList) = false := bytes_ne (by rw [HSB.out, HA0.out]; exact fun e => absurd (congrArg ByteArray.size e) (by rw [str_size, told_len]; decide))
  have hse : sB.toList.isEmpty = true := by rw [HSB.out, ByteArray.toList_eq]; rfl
  have HF2 : Hid (Fine (pinL c) (11 + 1 + 2) ss e2) := F2
  have HLS : Hid (ss.length = 4) := F.len
  clear F F1 F2 hfd hfd2 HN
  have t1 : Hid True := trivial
  have t2 : Hid True := trivial
  have t3 : Hid True := trivial
  have t4 : Hid True := trivial
  have s1 : Hid True := trivial
  have s2 : Hid True := trivial
  have u1 : Hid True := trivial
  have u2 : Hid True := trivial
  go_wp2_with (first | (go_at_call 16; first | (have tk := t2; clear tk t2; refine (hfr0.out _).mono ?_; rintro _ wf ⟨rfl, hbf⟩; replace HH := HH.next hbf; clear hbf) | (have tk := t3; clear tk t3; refine (hfr1.out _).mono ?_; rintro _ wf ⟨rfl, hbf⟩; replace HH := HH.next hbf; clear hbf) | (have tk := t4; clear tk t4; refine (hfr0.out _).mono ?_; rintro _ wf ⟨rfl, hbf⟩; replace HH := HH.next hbf; clear hbf)) | (go_at_call 17; first | (have tk := u2; clear tk u2; refine (hpinC.out _).mono ?_; rintro _ wf ⟨rfl, hbf⟩; replace HH := HH.next hbf; clear hbf)) | (go_at_call 20; refine (hpick2.out _).mono ?_; rintro _ wk ⟨rfl, ek⟩; rw [ek]; clear ek wk) | (go_at_call 24; refine (hcut.out _ HH.kd).mono ?_; rintro _ wd ⟨rfl, Kd, hgd⟩; replace HH := HH.feed Kd hgd; clear Kd hgd) | (go_at_call 25; refine (hboot.out _ HH.kd).mono ?_; rintro _ wd ⟨rfl, Kd, hgd⟩; replace HH := HH.feed Kd hgd; clear Kd hgd) | (go_at_call 19; first | (have tk := s1; clear tk s1; refine (hfeed.out _ HH.kd).mono ?_; rintro _ wd ⟨rfl, Kd, hgd⟩; replace HH := HH.feed Kd hgd; clear Kd hgd) | (have tk := s2; clear tk s2; refine (hfeed1.out _ HH.kd).mono ?_; rintro _ wd ⟨rfl, Kd, hgd⟩; replace HH := HH.feed Kd hgd; clear Kd hgd)))
  clear hcut hfeed hboot hfeed1 hfr6 hfr0 hfr1 hfr3 hpinC hpinF hpick2 hsb hse
  go_loopw [23] (fun iv wr => ∃ i : Nat, i ≤ 4 ∧ iv = .int .i64 i ∧ HoldAt w wr g e2 w1.heap.size ss) (fun iv _ => 4 - (intOf iv).toNat)
  case atStart => exact ⟨0, by omega, rfl, HH⟩
  case round =>
    clear HH
    obtain ⟨i, hi4, rfl, HH⟩ := hrel
    by_cases hlt : i < 4
    · have q1 : (i : Int) < 4 := by omega
      have q0 : (0 : Int) ≤ i := by omega
      have hi8 : (i : Int) % 256 = i := by omega
      have hin : (i : Int).toNat = i := by omega
      have hcv : ∀ (W : World), (convert 28 9 (.slice (some ⟨W.heap.size, 0, none⟩) 1 1)).run Tryd.prog (W.alloc (.cells #[.int .u8 (i : Int)] 5)) = .ok (.string (strOfNums [(i : Int)])) (W.alloc (.cells #[.int .u8 (i : Int)] 5)) := fun W => conv1 W i W.heap.size rfl
      have hm1 : (⟨#[109]⟩ : ByteArray).size = 1 := rfl
      obtain ⟨kw, HKW⟩ : ∃ kw, Hid (kw = ss.getD i ⟨#[]⟩) := ⟨_, rfl⟩
      obtain ⟨sS, HSS⟩ : ∃ sS, Hid (sS = str (sealTold kw [109])) := ⟨_, rfl⟩
      obtain ⟨f4, HF4⟩ : ∃ f4, Hid (f4 = str (told 4 (UInt8.ofNat i :: [109]))) := ⟨_, rfl⟩
      have hsn : e2.sound := HH.kd.ok
      have hkw : kw.size ≤ 20 := by rw [HKW.out]; exact HF2.out.key_le hsn i hlt
      have hfr4 : Hid (∀ W, Calls Tryd.prog 16 #[.int .i64 4, .string (strOfNums [(i : Int)] ++ ⟨#[109]⟩)] W fun r w' => r = .returned (.string f4) ∧ Below W.heap.size W w') := fun W => frame_is 4 _ (UInt8.ofNat i :: [109]) (one_str i _ _ rfl) W (by omega) (by omega) (by simp) f4 HF4.out
      have hfeed4 : Hid (∀ W, KdAt w W g e2 → Calls Tryd.prog 19 #[.pointer (some ⟨g, 0, none⟩), .string f4] W fun r w' => r = .returned (.string sS) ∧ KdAt w w' g e2 ∧ W.grownBy w' (some g)) := fun W K => by
        rw [HSS.out, HKW.out]
        exact keep_fed G K (HF2.out.seal K.ok (UInt8.ofNat i) i (by simp; omega) hlt [109] (by decide)) (by rw [told_len]; simp only [List.length_cons, List.length_nil]; omega) _ HF4.out
      have htold : Hid (∀ W, Glob W → Calls Tryd.prog 26 #[.string kw] W fun r w' => r = .returned (.string sS) ∧ Below W.heap.size W w') := fun W GW => by rw [HSS.out]; exact keep_told kw W GW hkw
      clear hkw hsn
      have HCE : Hid (ss.getD i ⟨#[]⟩ = kw) := HKW.out.symm
      by_cases hin2 : i = n
      · subst hin2
        go_wp2_with (first | (go_at_call 16; refine (hfr4.out _).mono ?_; rintro _ wf ⟨rfl, hbf⟩; replace HH := (HH.next ((Below.refl _ _).alloc (Nat.le_refl _) _)).next hbf; clear hbf) | (go_at_call 19; refine (hfeed4.out _ HH.kd).mono ?_; rintro _ wd ⟨rfl, Kd, hgd⟩; replace HH := HH.feed Kd hgd; clear Kd hgd; have c4 := HH.cell i (by rw [HLS.out]; exact hlt); rw [HCE.out] at c4) | (go_at_call 26; refine (htold.out _ (HH.glob G)).mono ?_; rintro _ wt ⟨rfl, hbt⟩; replace HH := HH.next hbt; clear hbt))
        go_roundw
        case rel => exact ⟨i + 1, by omega, by go_num, HH⟩
        case measure => simp [intOf]; omega
      · have hii : ((i : Int) == (n : Int)) = false := beq_eq_false_iff_ne.2 (by omega)
        have hii2 : ¬ (i : Int) = n := by omega
        go_wp2_with (first | (go_at_call 16; refine (hfr4.out _).mono ?_; rintro _ wf ⟨rfl, hbf⟩; replace HH := (HH.next ((Below.refl _ _).alloc (Nat.le_refl _) _)).next hbf; clear hbf) | (go_at_call 19; refine (hfeed4.out _ HH.kd).mono ?_; rintro _ wd ⟨rfl, Kd, hgd⟩; replace HH := HH.feed Kd hgd; clear Kd hgd; have c4 := HH.cell i (by rw [HLS.out]; exact hlt); rw [HCE.out] at c4) | (go_at_call 26; refine (htold.out _ (HH.glob G)).mono ?_; rintro _ wt ⟨rfl, hbt⟩; replace HH := HH.next hbt; clear hbt))
        go_roundw
        case rel => exact ⟨i + 1, by omega, by go_num, HH⟩
        case measure => simp [intOf]; omega
    · have hi : i = 4 := by omega
      subst hi
      have q1 : ¬ (4 : Int) < 4 := by omega
      go_wp2
      go_ret
      exact ⟨rfl, HH.kd.base⟩

end Go.Proofs.YtaokemapkgggoaaDoor

namespace Go.Proofs.YtaokemapkgggoaaDoor
open Go.RowKit

theorem keep_Torn (w : World) (c kind slot fresh power : Int) (ko : Option Addr) (kl kc : Nat) (G : Glob w) (hc0 : -9223372036854775808 ≤ c) (hc1 : c ≤ 9223372036854775807) (hk0 : -9223372036854775808 ≤ kind) (hk1 : kind ≤ 9223372036854775807) (hs0 : -9223372036854775808 ≤ slot) (hs1 : slot ≤ 9223372036854775807) (hf0 : -9223372036854775808 ≤ fresh) (hf1 : fresh ≤ 9223372036854775807) (hp0 : -9223372036854775808 ≤ power) (hp1 : power ≤ 9223372036854775807) (hK : IntsAt w ko kl) (hkl : kl < 9223372036854775808) :
    Calls Tryd.prog 8 #[.int .i64 c, .slice ko kl kc, .int .i64 kind, .int .i64 slot, .int .i64 fresh, .int .i64 power] w fun r w' => r = .returned (.bool true) ∧ Below w.heap.size w w' := by
  have hI : (-9223372036854775808 ≤ c ∧ c ≤ 9223372036854775807) ∧ (-9223372036854775808 ≤ kind ∧ kind ≤ 9223372036854775807) ∧ (-9223372036854775808 ≤ slot ∧ slot ≤ 9223372036854775807) ∧ (-9223372036854775808 ≤ fresh ∧ fresh ≤ 9223372036854775807) ∧ (-9223372036854775808 ≤ power ∧ power ≤ 9223372036854775807) := ⟨⟨hc0, hc1⟩, ⟨hk0, hk1⟩, ⟨hs0, hs1⟩, ⟨hf0, hf1⟩, ⟨hp0, hp1⟩⟩
  by_cases hkd : (kind.tmod 2 == 0) = true
  · by_cases hp : pickN power 130 < 101
    · exact keep_Torn_E0 w c kind slot fresh power ko kl kc G hI hK hkl hkd hp
    · exact keep_Torn_E1 w c kind slot fresh power ko kl kc G hI hK hkl hkd hp
  · have hkd' : (kind.tmod 2 == 0) = false := by simpa using hkd
    by_cases hp : pickN power 130 < 101
    · exact keep_Torn_O0 w c kind slot fresh power ko kl kc G hI hK hkl hkd' hp
    · exact keep_Torn_O1 w c kind slot fresh power ko kl kc G hI hK hkl hkd' hp
end Go.Proofs.YtaokemapkgggoaaDoor
