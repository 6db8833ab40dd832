import Derived.Test.YtaokemapkgggoaaDoorBd01
namespace Go.Proofs.YtaokemapkgggoaaDoor
open Go.RowKit

/-- a whole frame -/
def IsFrame (r : Ending) : Prop := ∃ (kind : Nat) (p : List UInt8), kind < 256 ∧ p.length ≤ 48 ∧ r = .returned (.string (str (told kind p)))
theorem frame_any (kind : Nat) (p : ByteArray) (W : World) (h : kind < 256) (hp : p.size ≤ 48) :
    Calls Tryd.prog 16 #[.int .i64 kind, .string p] W fun r w' => IsFrame r ∧ Below W.heap.size W w' := by
  refine (keep_frame kind p W (by omega) (by omega) (by omega)).mono ?_
  rintro r w' ⟨rfl, hb⟩
  exact ⟨⟨kind, p.data.toList, h, by rw [Array.length_toList]; exact hp, rfl⟩, hb⟩
set_option linter.unusedSimpArgs false in
set_option maxRecDepth 100000 in
set_option maxHeartbeats 16000000 in
theorem keep_ask0 (k a b : Int) (W : World) (hI : (-9223372036854775808 ≤ k ∧ k ≤ 9223372036854775807) ∧ (-9223372036854775808 ≤ a ∧ a ≤ 9223372036854775807) ∧ (-9223372036854775808 ≤ b ∧ b ≤ 9223372036854775807)) (hv : pickN k 10 = 0) :
    Calls Tryd.prog 18 #[.agg #[.int .i64 k, .int .i64 a, .int .i64 b]] W fun r w' => IsFrame r ∧ Below W.heap.size W w' := by
  have hpk : Hid (∀ W, Calls Tryd.prog 20 #[.int .i64 k, .int .i64 10] W fun r w' => r = .returned (.int .i64 0) ∧ w' = W) := fun W => by
    have := keep_pick k 10 W hI.1.1 hI.1.2 (by omega) (by omega)
    rw [hv] at this
    exact this
  clear hv
  have tp : Hid True := trivial
  obtain ⟨pb, HPB⟩ : ∃ pb, Hid (pb = str (pinL a)) := ⟨_, rfl⟩
  have hpz : pb.size ≤ 8 := by rw [HPB.out, str_size]; exact (pinL_len a).2
  have hpin : Hid (∀ W, Calls Tryd.prog 17 #[.int .i64 a] W fun r w' => r = .returned (.string pb) ∧ Below W.heap.size W w') := fun W => by rw [HPB.out]; exact keep_pin a W hI.2.1.1 hI.2.1.2
  have hfr : Hid (∀ W, Calls Tryd.prog 16 #[.int .i64 1, .string pb] W fun r w' => IsFrame r ∧ Below W.heap.size W w') := fun W => frame_any 1 pb W (by omega) (by omega)
  have B0 : Below W.heap.size W (W.alloc (.cells #[.int .i64 k, .int .i64 a, .int .i64 b] 40)) := (Below.refl _ _).alloc (Nat.le_refl _) _
  go_enter Tryd.func18, Tryd.ntmps18
  go_wp2_with (first | (go_at_call 20; have tk := tp; clear tk tp; refine (hpk.out _).mono ?_; rintro _ wk ⟨rfl, ek⟩; rw [ek]; clear ek wk) | (go_at_call 17; refine (hpin.out _).mono ?_; rintro _ w1 ⟨rfl, hb1⟩; have B1 := B0.trans (hb1.mono B0.size)) | (go_at_call 16; refine (hfr.out _).mono ?_; rintro _ w2 ⟨⟨fk, fp, f1, f2, rfl⟩, hb2⟩; have B2 := B1.trans (hb2.mono B1.size)))
  go_ret
  exact ⟨⟨fk, fp, f1, f2, rfl⟩, B2⟩

set_option linter.unusedSimpArgs false in
set_option maxRecDepth 100000 in
set_option maxHeartbeats 16000000 in
theorem keep_ask1 (k a b : Int) (W : World) (hI : (-9223372036854775808 ≤ k ∧ k ≤ 9223372036854775807) ∧ (-9223372036854775808 ≤ a ∧ a ≤ 9223372036854775807) ∧ (-9223372036854775808 ≤ b ∧ b ≤ 9223372036854775807)) (hv : pickN k 10 = 1) :
    Calls Tryd.prog 18 #[.agg #[.int .i64 k, .int .i64 a, .int .i64 b]] W fun r w' => IsFrame r ∧ Below W.heap.size W w' := by
  have hpk : Hid (∀ W, Calls Tryd.prog 20 #[.int .i64 k, .int .i64 10] W fun r w' => r = .returned (.int .i64 1) ∧ w' = W) := fun W => by
    have := keep_pick k 10 W hI.1.1 hI.1.2 (by omega) (by omega)
    rw [hv] at this
    exact this
  clear hv
  have tp : Hid True := trivial
  obtain ⟨pb, HPB⟩ : ∃ pb, Hid (pb = str (pinL a)) := ⟨_, rfl⟩
  have hpz : pb.size ≤ 8 := by rw [HPB.out, str_size]; exact (pinL_len a).2
  have hpin : Hid (∀ W, Calls Tryd.prog 17 #[.int .i64 a] W fun r w' => r = .returned (.string pb) ∧ Below W.heap.size W w') := fun W => by rw [HPB.out]; exact keep_pin a W hI.2.1.1 hI.2.1.2
  have hfr : Hid (∀ W, Calls Tryd.prog 16 #[.int .i64 1, .string pb] W fun r w' => IsFrame r ∧ Below W.heap.size W w') := fun W => frame_any 1 pb W (by omega) (by omega)
  have B0 : Below W.heap.size W (W.alloc (.cells #[.int .i64 k, .int .i64 a, .int .i64 b] 40)) := (Below.refl _ _).alloc (Nat.le_refl _) _
  go_enter Tryd.func18, Tryd.ntmps18
  go_wp2_with (first | (go_at_call 20; have tk := tp; clear tk tp; refine (hpk.out _).mono ?_; rintro _ wk ⟨rfl, ek⟩; rw [ek]; clear ek wk) | (go_at_call 17; refine (hpin.out _).mono ?_; rintro _ w1 ⟨rfl, hb1⟩; have B1 := B0.trans (hb1.mono B0.size)) | (go_at_call 16; refine (hfr.out _).mono ?_; rintro _ w2 ⟨⟨fk, fp, f1, f2, rfl⟩, hb2⟩; have B2 := B1.trans (hb2.mono B1.size)))
  go_ret
  exact ⟨⟨fk, fp, f1, f2, rfl⟩, B2⟩

set_option linter.unusedSimpArgs false in
set_option maxRecDepth 100000 in
set_option maxHeartbeats 16000000 in
theorem keep_ask2 (k a b : Int) (W : World) (hI : (-9223372036854775808 ≤ k ∧ k ≤ 9223372036854775807) ∧ (-9223372036854775808 ≤ a ∧ a ≤ 9223372036854775807) ∧ (-9223372036854775808 ≤ b ∧ b ≤ 9223372036854775807)) (hv : pickN k 10 = 2) :
    Calls Tryd.prog 18 #[.agg #[.int .i64 k, .int .i64 a, .int .i64 b]] W fun r w' => IsFrame r ∧ Below W.heap.size W w' := by
  have hpk : Hid (∀ W, Calls Tryd.prog 20 #[.int .i64 k, .int .i64 10] W fun r w' => r = .returned (.int .i64 2) ∧ w' = W) := fun W => by
    have := keep_pick k 10 W hI.1.1 hI.1.2 (by omega) (by omega)
    rw [hv] at this
    exact this
  clear hv
  have tp : Hid True := trivial
  have hfr : Hid (∀ W, Calls Tryd.prog 16 #[.int .i64 2, .string ⟨#[]⟩] W fun r w' => IsFrame r ∧ Below W.heap.size W w') := fun W => frame_any 2 ⟨#[]⟩ W (by omega) (by decide)
  have B0 : Below W.heap.size W (W.alloc (.cells #[.int .i64 k, .int .i64 a, .int .i64 b] 40)) := (Below.refl _ _).alloc (Nat.le_refl _) _
  go_enter Tryd.func18, Tryd.ntmps18
  go_wp2_with (first | (go_at_call 20; have tk := tp; clear tk tp; refine (hpk.out _).mono ?_; rintro _ wk ⟨rfl, ek⟩; rw [ek]; clear ek wk) | (go_at_call 16; refine (hfr.out _).mono ?_; rintro _ w2 ⟨⟨fk, fp, f1, f2, rfl⟩, hb2⟩; have B2 := B0.trans (hb2.mono B0.size)))
  go_ret
  exact ⟨⟨fk, fp, f1, f2, rfl⟩, B2⟩

set_option linter.unusedSimpArgs false in
set_option maxRecDepth 100000 in
set_option maxHeartbeats 16000000 in
theorem keep_ask3 (k a b : Int) (W : World) (hI : (-9223372036854775808 ≤ k ∧ k ≤ 9223372036854775807) ∧ (-9223372036854775808 ≤ a ∧ a ≤ 9223372036854775807) ∧ (-9223372036854775808 ≤ b ∧ b ≤ 9223372036854775807)) (hv : pickN k 10 = 3) :
    Calls Tryd.prog 18 #[.agg #[.int .i64 k, .int .i64 a, .int .i64 b]] W fun r w' => IsFrame r ∧ Below W.heap.size W w' := by
  have hpk : Hid (∀ W, Calls Tryd.prog 20 #[.int .i64 k, .int .i64 10] W fun r w' => r = .returned (.int .i64 3) ∧ w' = W) := fun W => by
    have := keep_pick k 10 W hI.1.1 hI.1.2 (by omega) (by omega)
    rw [hv] at this
    exact this
  clear hv
  have tp : Hid True := trivial
  obtain ⟨n, HN⟩ : ∃ n, Hid (n = pickN a 5) := ⟨_, rfl⟩
  have hn4 : n < 5 := by rw [HN.out]; exact pickN_lt _ (by omega)
  have hp2 : Hid (∀ W, Calls Tryd.prog 20 #[.int .i64 a, .int .i64 5] W fun r w' => r = .returned (.int .i64 n) ∧ w' = W) := fun W => by rw [HN.out]; exact keep_pick _ 5 W hI.2.1.1 hI.2.1.2 (by omega) (by omega)
  obtain ⟨kb, HKB⟩ : ∃ kb, Hid (kb = str (keyL6 b)) := ⟨_, rfl⟩
  have hkz : kb.size ≤ 20 := by rw [HKB.out, str_size]; exact (keyL6_len b).2
  have hkey : Hid (∀ W, Calls Tryd.prog 11 #[.int .i64 b] W fun r w' => r = .returned (.string kb) ∧ Below W.heap.size W w') := fun W => by rw [HKB.out]; exact keep_key b W hI.2.2.1 hI.2.2.2
  have hn8 : (n : Int) % 256 = n := by omega
  have hw8 : ∀ x : Int, IntKind.u8.wrap x = x % 256 := u8_wrap
  have hz1 := size1
  have hz2 : 1 + kb.size ≤ 9223372036854775807 := by omega
  have hfr : Hid (∀ W, Calls Tryd.prog 16 #[.int .i64 3, .string (strOfNums [(n : Int)] ++ kb)] W fun r w' => IsFrame r ∧ Below W.heap.size W w') := fun W => frame_any 3 (strOfNums [(n : Int)] ++ kb) W (by omega) (by rw [ByteArray.size_append, size1]; omega)
  have r0 : Row (W.alloc (.cells #[.int .i64 k, .int .i64 a, .int .i64 b] 40)).drew W.heap.size [.int .i64 k, .int .i64 a, .int .i64 b] 40 := (Row.made _ _ _).drew
  have hkS : ∀ X X' : World, (X.cell? ⟨W.heap.size, 1, none⟩ = some (.int .i64 a) ∧ X.cell? ⟨W.heap.size, 2, none⟩ = some (.int .i64 b) ∧ Below W.heap.size W X ∧ W.heap.size < X.heap.size) → Below X.heap.size X X' → (X'.cell? ⟨W.heap.size, 1, none⟩ = some (.int .i64 a) ∧ X'.cell? ⟨W.heap.size, 2, none⟩ = some (.int .i64 b) ∧ Below W.heap.size W X' ∧ W.heap.size < X'.heap.size) := fun X X' h hb => ⟨(hb.cell (p := ⟨W.heap.size, 1, none⟩) h.2.2.2).trans h.1, (hb.cell (p := ⟨W.heap.size, 2, none⟩) h.2.2.2).trans h.2.1, h.2.2.1.trans (hb.mono h.2.2.1.size), Nat.lt_of_lt_of_le h.2.2.2 hb.size⟩
  have hS0 : (fun X : World => X.cell? ⟨W.heap.size, 1, none⟩ = some (.int .i64 a) ∧ X.cell? ⟨W.heap.size, 2, none⟩ = some (.int .i64 b) ∧ Below W.heap.size W X ∧ W.heap.size < X.heap.size) (W.alloc (.cells #[.int .i64 k, .int .i64 a, .int .i64 b] 40)).drew := ⟨r0.cell.trans rfl, r0.cell.trans rfl, ((Below.refl _ _).alloc (Nat.le_refl _) _).drew, r0.lt⟩
  go_enter Tryd.func18, Tryd.ntmps18
  go_wp2_with (go_at_call 20; have tk := tp; clear tk tp; refine (hpk.out _).mono ?_; rintro _ wk ⟨rfl, ek⟩; rw [ek]; clear ek wk)
  refine wp_normalK ?_
  refine wp_region_letter (S := fun X => X.cell? ⟨W.heap.size, 1, none⟩ = some (.int .i64 a) ∧ X.cell? ⟨W.heap.size, 2, none⟩ = some (.int .i64 b) ∧ Below W.heap.size W X ∧ W.heap.size < X.heap.size) (by kernel_rfl) hS0 ?_
  intro w0 hS_w0
  refine wpAnyH_take (i := 0) (v := .pointer (some ⟨W.heap.size, 1, none⟩)) rfl (by kernel_rfl) (by kernel_rfl) (by kernel_rfl) (fun _ _ _ h => no_panic h.1) (yields_of rfl (fun w' hw' => by clear hw'; go_simp)) hS_w0 ?_
  try simp only [List.getElem_toArray, List.getElem_cons_succ, List.getElem_cons_zero, Act.put, List.setIfInBounds_toArray, List.set_cons_succ, List.set_cons_zero]
  refine wpAnyH_take (i := 1) (v := .int .i64 a) rfl (by kernel_rfl) (by kernel_rfl) (by kernel_rfl) (fun _ _ _ h => no_panic h.1) (yields_of rfl (fun w' hw' => by obtain ⟨y1, y2, -, -⟩ := hw'; go_simp)) hS_w0 ?_
  try simp only [List.getElem_toArray, List.getElem_cons_succ, List.getElem_cons_zero, Act.put, List.setIfInBounds_toArray, List.set_cons_succ, List.set_cons_zero]
  refine wpAnyH_take (i := 6) (v := .pointer (some ⟨W.heap.size, 2, none⟩)) rfl (by kernel_rfl) (by kernel_rfl) (by kernel_rfl) (fun _ _ _ h => no_panic h.1) (yields_of rfl (fun w' hw' => by clear hw'; go_simp)) hS_w0 ?_
  try simp only [List.getElem_toArray, List.getElem_cons_succ, List.getElem_cons_zero, Act.put, List.setIfInBounds_toArray, List.set_cons_succ, List.set_cons_zero]
  refine wpAnyH_take (i := 7) (v := .int .i64 b) rfl (by kernel_rfl) (by kernel_rfl) (by kernel_rfl) (fun _ _ _ h => no_panic h.1) (yields_of rfl (fun w' hw' => by obtain ⟨y1, y2, -, -⟩ := hw'; go_simp)) hS_w0 ?_
  try simp only [List.getElem_toArray, List.getElem_cons_succ, List.getElem_cons_zero, Act.put, List.setIfInBounds_toArray, List.set_cons_succ, List.set_cons_zero]
  refine wpAnyH_ready (rs := [2]) (by kernel_rfl) (by simp) (AllReadyH.cons (i := 2) rfl (fun K hK => ?_) AllReadyH.nil)
  refine step_of rfl ?_
  try simp only [List.getElem_toArray, List.getElem_cons_succ, List.getElem_cons_zero, Act.put, List.setIfInBounds_toArray, List.set_cons_succ, List.set_cons_zero]
  refine wp_callC 20 #[.int .i64 a, .int .i64 5] (by go_simp) ?_
  refine (hp2.out w0).mono ?_
  rintro _ w9 ⟨rfl, e9⟩
  rw [e9]
  clear e9 w9
  refine ⟨_, rfl, hK.out _ _ hS_w0 (fun _ => ?_)⟩
  clear hK K
  try simp only [List.getElem_toArray, List.getElem_cons_succ, List.getElem_cons_zero, Act.put, List.setIfInBounds_toArray, List.set_cons_succ, List.set_cons_zero]
  refine wpAnyH_take (i := 3) (v := .int .u8 n) rfl (by kernel_rfl) (by kernel_rfl) (by kernel_rfl) (fun _ _ _ h => no_panic h.1) (yields_of rfl (fun w' hw' => by clear hw'; go_simp)) hS_w0 ?_
  try simp only [List.getElem_toArray, List.getElem_cons_succ, List.getElem_cons_zero, Act.put, List.setIfInBounds_toArray, List.set_cons_succ, List.set_cons_zero]
  refine wpAnyH_ready (rs := [4, 8]) (by kernel_rfl) (by simp) (AllReadyH.cons (i := 4) rfl (fun K hK => ?_) (AllReadyH.cons (i := 8) rfl (fun K hK => ?_) AllReadyH.nil))
  · have hS_x1 := hkS _ _ hS_w0 (below_built w0 (.cells #[.int .u8 (n : Int)] 5))
    have r4_x1 := row_built w0 (n : Int)
    refine step_of rfl (wp_val (v := .slice (some ⟨w0.heap.size, 0, none⟩) 1 1) (w' := w0.alloc (.cells #[.int .u8 (n : Int)] 5)) (by go_simp) (hK.out _ _ hS_x1 (fun _ => ?_)))
    clear hK K
    try simp only [List.getElem_toArray, List.getElem_cons_succ, List.getElem_cons_zero, Act.put, List.setIfInBounds_toArray, List.set_cons_succ, List.set_cons_zero]
    generalize w0.alloc (.cells #[.int .u8 (n : Int)] 5) = x1 at *
    refine wpAnyH_ready (rs := [5, 8]) (by kernel_rfl) (by simp) (AllReadyH.cons (i := 5) rfl (fun K hK => ?_) (AllReadyH.cons (i := 8) rfl (fun K hK => ?_) AllReadyH.nil))
    · have hcv := run_convR x1 (w0.heap.size) [(n : Int)] 1 1 rfl r4_x1.range
      refine step_of rfl (wp_val (v := .string (strOfNums [(n : Int)])) (w' := x1) (by go_simp) (hK.out _ _ hS_x1 (fun _ => ?_)))
      clear hK K hcv
      try simp only [List.getElem_toArray, List.getElem_cons_succ, List.getElem_cons_zero, Act.put, List.setIfInBounds_toArray, List.set_cons_succ, List.set_cons_zero]
      refine wpAnyH_ready (rs := [8]) (by kernel_rfl) (by simp) (AllReadyH.cons (i := 8) rfl (fun K hK => ?_) AllReadyH.nil)
      refine step_of rfl ?_
      try simp only [List.getElem_toArray, List.getElem_cons_succ, List.getElem_cons_zero, Act.put, List.setIfInBounds_toArray, List.set_cons_succ, List.set_cons_zero]
      refine wp_callC 11 #[.int .i64 b] (by go_simp) ?_
      refine (hkey.out x1).mono ?_
      rintro _ x2 ⟨rfl, hb_x2⟩
      have hS_x2 := hkS _ _ hS_x1 hb_x2
      have r4_x1_x2 := r4_x1.below hb_x2 r4_x1.lt
      refine ⟨_, rfl, hK.out _ _ hS_x2 (fun _ => ?_)⟩
      clear hK K
      try simp only [List.getElem_toArray, List.getElem_cons_succ, List.getElem_cons_zero, Act.put, List.setIfInBounds_toArray, List.set_cons_succ, List.set_cons_zero]
      refine wpAnyH_take (i := 9) (v := .string (strOfNums [(n : Int)] ++ kb)) rfl (by kernel_rfl) (by kernel_rfl) (by kernel_rfl) (fun _ _ _ h => no_panic h.1) (yields_of rfl (fun w' hw' => by clear hw'; go_simp)) hS_x2 ?_
      try simp only [List.getElem_toArray, List.getElem_cons_succ, List.getElem_cons_zero, Act.put, List.setIfInBounds_toArray, List.set_cons_succ, List.set_cons_zero]
      refine wpAnyH_ready (rs := [10]) (by kernel_rfl) (by simp) (AllReadyH.cons (i := 10) rfl (fun K hK => ?_) AllReadyH.nil)
      refine step_of rfl ?_
      try simp only [List.getElem_toArray, List.getElem_cons_succ, List.getElem_cons_zero, Act.put, List.setIfInBounds_toArray, List.set_cons_succ, List.set_cons_zero]
      refine wp_callC 16 #[.int .i64 3, .string (strOfNums [(n : Int)] ++ kb)] (by go_simp) ?_
      refine (hfr.out x2).mono ?_
      rintro _ x3 ⟨⟨fk, fp, f1, f2, rfl⟩, hb_x3⟩
      have hS_x3 := hkS _ _ hS_x2 hb_x3
      have r4_x1_x2_x3 := r4_x1_x2.below hb_x3 r4_x1_x2.lt
      refine ⟨_, rfl, hK.out _ _ hS_x3 (fun _ => ?_)⟩
      clear hK K
      try simp only [List.getElem_toArray, List.getElem_cons_succ, List.getElem_cons_zero, Act.put, List.setIfInBounds_toArray, List.set_cons_succ, List.set_cons_zero]
      refine wpAnyH_take (i := 11) (v := .string (str (told fk fp))) rfl (by kernel_rfl) (by kernel_rfl) (by kernel_rfl) (fun _ _ _ h => no_panic h.1) (yields_of rfl (fun w' hw' => by clear hw'; go_simp)) hS_x3 ?_
      try simp only [List.getElem_toArray, List.getElem_cons_succ, List.getElem_cons_zero, Act.put, List.setIfInBounds_toArray, List.set_cons_succ, List.set_cons_zero]
      refine wpAnyH_done (by kernel_rfl) ⟨rfl, ?_⟩ _
      go_wp2
      go_ret
      exact ⟨⟨fk, fp, f1, f2, rfl⟩, hS_x3.2.2.1⟩
    · refine step_of rfl ?_
      try simp only [List.getElem_toArray, List.getElem_cons_succ, List.getElem_cons_zero, Act.put, List.setIfInBounds_toArray, List.set_cons_succ, List.set_cons_zero]
      refine wp_callC 11 #[.int .i64 b] (by go_simp) ?_
      refine (hkey.out x1).mono ?_
      rintro _ x4 ⟨rfl, hb_x4⟩
      have hS_x4 := hkS _ _ hS_x1 hb_x4
      have r4_x1_x4 := r4_x1.below hb_x4 r4_x1.lt
      refine ⟨_, rfl, hK.out _ _ hS_x4 (fun _ => ?_)⟩
      clear hK K
      try simp only [List.getElem_toArray, List.getElem_cons_succ, List.getElem_cons_zero, Act.put, List.setIfInBounds_toArray, List.set_cons_succ, List.set_cons_zero]
      refine wpAnyH_ready (rs := [5]) (by kernel_rfl) (by simp) (AllReadyH.cons (i := 5) rfl (fun K hK => ?_) AllReadyH.nil)
      have hcv := run_convR x4 (w0.heap.size) [(n : Int)] 1 1 rfl r4_x1_x4.range
      refine step_of rfl (wp_val (v := .string (strOfNums [(n : Int)])) (w' := x4) (by go_simp) (hK.out _ _ hS_x4 (fun _ => ?_)))
      clear hK K hcv
      try simp only [List.getElem_toArray, List.getElem_cons_succ, List.getElem_cons_zero, Act.put, List.setIfInBounds_toArray, List.set_cons_succ, List.set_cons_zero]
      refine wpAnyH_take (i := 9) (v := .string (strOfNums [(n : Int)] ++ kb)) rfl (by kernel_rfl) (by kernel_rfl) (by kernel_rfl) (fun _ _ _ h => no_panic h.1) (yields_of rfl (fun w' hw' => by clear hw'; go_simp)) hS_x4 ?_
      try simp only [List.getElem_toArray, List.getElem_cons_succ, List.getElem_cons_zero, Act.put, List.setIfInBounds_toArray, List.set_cons_succ, List.set_cons_zero]
      refine wpAnyH_ready (rs := [10]) (by kernel_rfl) (by simp) (AllReadyH.cons (i := 10) rfl (fun K hK => ?_) AllReadyH.nil)
      refine step_of rfl ?_
      try simp only [List.getElem_toArray, List.getElem_cons_succ, List.getElem_cons_zero, Act.put, List.setIfInBounds_toArray, List.set_cons_succ, List.set_cons_zero]
      refine wp_callC 16 #[.int .i64 3, .string (strOfNums [(n : Int)] ++ kb)] (by go_simp) ?_
      refine (hfr.out x4).mono ?_
      rintro _ x5 ⟨⟨fk, fp, f1, f2, rfl⟩, hb_x5⟩
      have hS_x5 := hkS _ _ hS_x4 hb_x5
      have r4_x1_x4_x5 := r4_x1_x4.below hb_x5 r4_x1_x4.lt
      refine ⟨_, rfl, hK.out _ _ hS_x5 (fun _ => ?_)⟩
      clear hK K
      try simp only [List.getElem_toArray, List.getElem_cons_succ, List.getElem_cons_zero, Act.put, List.setIfInBounds_toArray, List.set_cons_succ, List.set_cons_zero]
      refine wpAnyH_take (i := 11) (v := .string (str (told fk fp))) rfl (by kernel_rfl) (by kernel_rfl) (by kernel_rfl) (fun _ _ _ h => no_panic h.1) (yields_of rfl (fun w' hw' => by clear hw'; go_simp)) hS_x5 ?_
      try simp only [List.getElem_toArray, List.getElem_cons_succ, List.getElem_cons_zero, Act.put, List.setIfInBounds_toArray, List.set_cons_succ, List.set_cons_zero]
      refine wpAnyH_done (by kernel_rfl) ⟨rfl, ?_⟩ _
      go_wp2
      go_ret
      exact ⟨⟨fk, fp, f1, f2, rfl⟩, hS_x5.2.2.1⟩
  · refine step_of rfl ?_
    try simp only [List.getElem_toArray, List.getElem_cons_succ, List.getElem_cons_zero, Act.put, List.setIfInBounds_toArray, List.set_cons_succ, List.set_cons_zero]
    refine wp_callC 11 #[.int .i64 b] (by go_simp) ?_
    refine (hkey.out w0).mono ?_
    rintro _ x6 ⟨rfl, hb_x6⟩
    have hS_x6 := hkS _ _ hS_w0 hb_x6
    refine ⟨_, rfl, hK.out _ _ hS_x6 (fun _ => ?_)⟩
    clear hK K
    try simp only [List.getElem_toArray, List.getElem_cons_succ, List.getElem_cons_zero, Act.put, List.setIfInBounds_toArray, List.set_cons_succ, List.set_cons_zero]
    refine wpAnyH_ready (rs := [4]) (by kernel_rfl) (by simp) (AllReadyH.cons (i := 4) rfl (fun K hK => ?_) AllReadyH.nil)
    have hS_x7 := hkS _ _ hS_x6 (below_built x6 (.cells #[.int .u8 (n : Int)] 5))
    have r4_x7 := row_built x6 (n : Int)
    refine step_of rfl (wp_val (v := .slice (some ⟨x6.heap.size, 0, none⟩) 1 1) (w' := x6.alloc (.cells #[.int .u8 (n : Int)] 5)) (by go_simp) (hK.out _ _ hS_x7 (fun _ => ?_)))
    clear hK K
    try simp only [List.getElem_toArray, List.getElem_cons_succ, List.getElem_cons_zero, Act.put, List.setIfInBounds_toArray, List.set_cons_succ, List.set_cons_zero]
    generalize x6.alloc (.cells #[.int .u8 (n : Int)] 5) = x7 at *
    refine wpAnyH_ready (rs := [5]) (by kernel_rfl) (by simp) (AllReadyH.cons (i := 5) rfl (fun K hK => ?_) AllReadyH.nil)
    have hcv := run_convR x7 (x6.heap.size) [(n : Int)] 1 1 rfl r4_x7.range
    refine step_of rfl (wp_val (v := .string (strOfNums [(n : Int)])) (w' := x7) (by go_simp) (hK.out _ _ hS_x7 (fun _ => ?_)))
    clear hK K hcv
    try simp only [List.getElem_toArray, List.getElem_cons_succ, List.getElem_cons_zero, Act.put, List.setIfInBounds_toArray, List.set_cons_succ, List.set_cons_zero]
    refine wpAnyH_take (i := 9) (v := .string (strOfNums [(n : Int)] ++ kb)) rfl (by kernel_rfl) (by kernel_rfl) (by kernel_rfl) (fun _ _ _ h => no_panic h.1) (yields_of rfl (fun w' hw' => by clear hw'; go_simp)) hS_x7 ?_
    try simp only [List.getElem_toArray, List.getElem_cons_succ, List.getElem_cons_zero, Act.put, List.setIfInBounds_toArray, List.set_cons_succ, List.set_cons_zero]
    refine wpAnyH_ready (rs := [10]) (by kernel_rfl) (by simp) (AllReadyH.cons (i := 10) rfl (fun K hK => ?_) AllReadyH.nil)
    refine step_of rfl ?_
    try simp only [List.getElem_toArray, List.getElem_cons_succ, List.getElem_cons_zero, Act.put, List.setIfInBounds_toArray, List.set_cons_succ, List.set_cons_zero]
    refine wp_callC 16 #[.int .i64 3, .string (strOfNums [(n : Int)] ++ kb)] (by go_simp) ?_
    refine (hfr.out x7).mono ?_
    rintro _ x8 ⟨⟨fk, fp, f1, f2, rfl⟩, hb_x8⟩
    have hS_x8 := hkS _ _ hS_x7 hb_x8
    have r4_x7_x8 := r4_x7.below hb_x8 r4_x7.lt
    refine ⟨_, rfl, hK.out _ _ hS_x8 (fun _ => ?_)⟩
    clear hK K
    try simp only [List.getElem_toArray, List.getElem_cons_succ, List.getElem_cons_zero, Act.put, List.setIfInBounds_toArray, List.set_cons_succ, List.set_cons_zero]
    refine wpAnyH_take (i := 11) (v := .string (str (told fk fp))) rfl (by kernel_rfl) (by kernel_rfl) (by kernel_rfl) (fun _ _ _ h => no_panic h.1) (yields_of rfl (fun w' hw' => by clear hw'; go_simp)) hS_x8 ?_
    try simp only [List.getElem_toArray, List.getElem_cons_succ, List.getElem_cons_zero, Act.put, List.setIfInBounds_toArray, List.set_cons_succ, List.set_cons_zero]
    refine wpAnyH_done (by kernel_rfl) ⟨rfl, ?_⟩ _
    go_wp2
    go_ret
    exact ⟨⟨fk, fp, f1, f2, rfl⟩, hS_x8.2.2.1⟩

set_option linter.unusedSimpArgs false in
set_option maxRecDepth 100000 in
set_option maxHeartbeats 16000000 in
theorem keep_ask4 (k a b : Int) (W : World) (hI : (-9223372036854775808 ≤ k ∧ k ≤ 9223372036854775807) ∧ (-9223372036854775808 ≤ a ∧ a ≤ 9223372036854775807) ∧ (-9223372036854775808 ≤ b ∧ b ≤ 9223372036854775807)) (hv : pickN k 10 = 4) :
    Calls Tryd.prog 18 #[.agg #[.int .i64 k, .int .i64 a, .int .i64 b]] W fun r w' => IsFrame r ∧ Below W.heap.size W w' := by
  have hpk : Hid (∀ W, Calls Tryd.prog 20 #[.int .i64 k, .int .i64 10] W fun r w' => r = .returned (.int .i64 4) ∧ w' = W) := fun W => by
    have := keep_pick k 10 W hI.1.1 hI.1.2 (by omega) (by omega)
    rw [hv] at this
    exact this
  clear hv
  have tp : Hid True := trivial
  obtain ⟨n, HN⟩ : ∃ n, Hid (n = pickN a 4) := ⟨_, rfl⟩
  have hn4 : n < 4 := by rw [HN.out]; exact pickN_lt _ (by omega)
  have hp2 : Hid (∀ W, Calls Tryd.prog 20 #[.int .i64 a, .int .i64 4] W fun r w' => r = .returned (.int .i64 n) ∧ w' = W) := fun W => by rw [HN.out]; exact keep_pick _ 4 W hI.2.1.1 hI.2.1.2 (by omega) (by omega)
  have hn8 : (n : Int) % 256 = n := by omega
  have hw8 : ∀ x : Int, IntKind.u8.wrap x = x % 256 := u8_wrap
  have hcv : ∀ (W : World), (convert 28 9 (.slice (some ⟨W.heap.size, 0, none⟩) 1 1)).run Tryd.prog (W.alloc (.cells #[.int .u8 (n : Int)] 5)) = .ok (.string (strOfNums [(n : Int)])) (W.alloc (.cells #[.int .u8 (n : Int)] 5)) := fun W => conv1 W n W.heap.size rfl
  have hcv' : ∀ (W : World) (o : Obj), (convert 28 9 (.slice (some ⟨W.heap.size + 1, 0, none⟩) 1 1)).run Tryd.prog ((W.alloc o).alloc (.cells #[.int .u8 (n : Int)] 5)) = .ok (.string (strOfNums [(n : Int)])) ((W.alloc o).alloc (.cells #[.int .u8 (n : Int)] 5)) := fun W o => conv1 (W.alloc o) n (W.heap.size + 1) (World.size_alloc _ _).symm
  have hfr : Hid (∀ W, Calls Tryd.prog 16 #[.int .i64 3, .string (strOfNums [(n : Int)])] W fun r w' => IsFrame r ∧ Below W.heap.size W w') := fun W => frame_any 3 (strOfNums [(n : Int)]) W (by omega) (by rw [size1]; omega)
  have B0 : Below W.heap.size W (W.alloc (.cells #[.int .i64 k, .int .i64 a, .int .i64 b] 40)) := (Below.refl _ _).alloc (Nat.le_refl _) _
  go_enter Tryd.func18, Tryd.ntmps18
  go_wp2_with (first | (go_at_call 20; first | (have tk := tp; clear tk tp; refine (hpk.out _).mono ?_; rintro _ wk ⟨rfl, ek⟩; rw [ek]; clear ek wk) | (refine (hp2.out _).mono ?_; rintro _ wk ⟨rfl, ek⟩; rw [ek]; clear ek wk)) | (go_at_call 16; refine (hfr.out _).mono ?_; rintro _ w2 ⟨⟨fk, fp, f1, f2, rfl⟩, hb2⟩; have B1 := B0.alloc (by simp) (.cells #[.int .u8 (n : Int)] 5); have B2 := B1.trans (hb2.mono B1.size)))
  go_ret
  exact ⟨⟨fk, fp, f1, f2, rfl⟩, B2⟩

set_option linter.unusedSimpArgs false in
set_option maxRecDepth 100000 in
set_option maxHeartbeats 16000000 in
theorem keep_ask5 (k a b : Int) (W : World) (hI : (-9223372036854775808 ≤ k ∧ k ≤ 9223372036854775807) ∧ (-9223372036854775808 ≤ a ∧ a ≤ 9223372036854775807) ∧ (-9223372036854775808 ≤ b ∧ b ≤ 9223372036854775807)) (hv : pickN k 10 = 5) :
    Calls Tryd.prog 18 #[.agg #[.int .i64 k, .int .i64 a, .int .i64 b]] W fun r w' => IsFrame r ∧ Below W.heap.size W w' := by
  have hpk : Hid (∀ W, Calls Tryd.prog 20 #[.int .i64 k, .int .i64 10] W fun r w' => r = .returned (.int .i64 5) ∧ w' = W) := fun W => by
    have := keep_pick k 10 W hI.1.1 hI.1.2 (by omega) (by omega)
    rw [hv] at this
    exact this
  clear hv
  have tp : Hid True := trivial
  obtain ⟨n, HN⟩ : ∃ n, Hid (n = pickN a 5) := ⟨_, rfl⟩
  have hn4 : n < 5 := by rw [HN.out]; exact pickN_lt _ (by omega)
  have hp2 : Hid (∀ W, Calls Tryd.prog 20 #[.int .i64 a, .int .i64 5] W fun r w' => r = .returned (.int .i64 n) ∧ w' = W) := fun W => by rw [HN.out]; exact keep_pick _ 5 W hI.2.1.1 hI.2.1.2 (by omega) (by omega)
  obtain ⟨kb, HKB⟩ : ∃ kb, Hid (kb = str (keyL6 b)) := ⟨_, rfl⟩
  have hkz : kb.size ≤ 20 := by rw [HKB.out, str_size]; exact (keyL6_len b).2
  have hkey : Hid (∀ W, Calls Tryd.prog 11 #[.int .i64 b] W fun r w' => r = .returned (.string kb) ∧ Below W.heap.size W w') := fun W => by rw [HKB.out]; exact keep_key b W hI.2.2.1 hI.2.2.2
  have hn8 : (n : Int) % 256 = n := by omega
  have hw8 : ∀ x : Int, IntKind.u8.wrap x = x % 256 := u8_wrap
  have hz1 := size1
  have hz2 : 1 + kb.size ≤ 9223372036854775807 := by omega
  have hfr : Hid (∀ W, Calls Tryd.prog 16 #[.int .i64 4, .string (strOfNums [(n : Int)] ++ kb)] W fun r w' => IsFrame r ∧ Below W.heap.size W w') := fun W => frame_any 4 (strOfNums [(n : Int)] ++ kb) W (by omega) (by rw [ByteArray.size_append, size1]; omega)
  have r0 : Row (W.alloc (.cells #[.int .i64 k, .int .i64 a, .int .i64 b] 40)).drew W.heap.size [.int .i64 k, .int .i64 a, .int .i64 b] 40 := (Row.made _ _ _).drew
  have hkS : ∀ X X' : World, (X.cell? ⟨W.heap.size, 1, none⟩ = some (.int .i64 a) ∧ X.cell? ⟨W.heap.size, 2, none⟩ = some (.int .i64 b) ∧ Below W.heap.size W X ∧ W.heap.size < X.heap.size) → Below X.heap.size X X' → (X'.cell? ⟨W.heap.size, 1, none⟩ = some (.int .i64 a) ∧ X'.cell? ⟨W.heap.size, 2, none⟩ = some (.int .i64 b) ∧ Below W.heap.size W X' ∧ W.heap.size < X'.heap.size) := fun X X' h hb => ⟨(hb.cell (p := ⟨W.heap.size, 1, none⟩) h.2.2.2).trans h.1, (hb.cell (p := ⟨W.heap.size, 2, none⟩) h.2.2.2).trans h.2.1, h.2.2.1.trans (hb.mono h.2.2.1.size), Nat.lt_of_lt_of_le h.2.2.2 hb.size⟩
  have hS0 : (fun X : World => X.cell? ⟨W.heap.size, 1, none⟩ = some (.int .i64 a) ∧ X.cell? ⟨W.heap.size, 2, none⟩ = some (.int .i64 b) ∧ Below W.heap.size W X ∧ W.heap.size < X.heap.size) (W.alloc (.cells #[.int .i64 k, .int .i64 a, .int .i64 b] 40)).drew := ⟨r0.cell.trans rfl, r0.cell.trans rfl, ((Below.refl _ _).alloc (Nat.le_refl _) _).drew, r0.lt⟩
  go_enter Tryd.func18, Tryd.ntmps18
  go_wp2_with (go_at_call 20; have tk := tp; clear tk tp; refine (hpk.out _).mono ?_; rintro _ wk ⟨rfl, ek⟩; rw [ek]; clear ek wk)
  refine wp_normalK ?_
  refine wp_region_letter (S := fun X => X.cell? ⟨W.heap.size, 1, none⟩ = some (.int .i64 a) ∧ X.cell? ⟨W.heap.size, 2, none⟩ = some (.int .i64 b) ∧ Below W.heap.size W X ∧ W.heap.size < X.heap.size) (by kernel_rfl) hS0 ?_
  intro w0 hS_w0
  refine wpAnyH_take (i := 0) (v := .pointer (some ⟨W.heap.size, 1, none⟩)) rfl (by kernel_rfl) (by kernel_rfl) (by kernel_rfl) (fun _ _ _ h => no_panic h.1) (yields_of rfl (fun w' hw' => by clear hw'; go_simp)) hS_w0 ?_
  try simp only [List.getElem_toArray, List.getElem_cons_succ, List.getElem_cons_zero, Act.put, List.setIfInBounds_toArray, List.set_cons_succ, List.set_cons_zero]
  refine wpAnyH_take (i := 1) (v := .int .i64 a) rfl (by kernel_rfl) (by kernel_rfl) (by kernel_rfl) (fun _ _ _ h => no_panic h.1) (yields_of rfl (fun w' hw' => by obtain ⟨y1, y2, -, -⟩ := hw'; go_simp)) hS_w0 ?_
  try simp only [List.getElem_toArray, List.getElem_cons_succ, List.getElem_cons_zero, Act.put, List.setIfInBounds_toArray, List.set_cons_succ, List.set_cons_zero]
  refine wpAnyH_take (i := 6) (v := .pointer (some ⟨W.heap.size, 2, none⟩)) rfl (by kernel_rfl) (by kernel_rfl) (by kernel_rfl) (fun _ _ _ h => no_panic h.1) (yields_of rfl (fun w' hw' => by clear hw'; go_simp)) hS_w0 ?_
  try simp only [List.getElem_toArray, List.getElem_cons_succ, List.getElem_cons_zero, Act.put, List.setIfInBounds_toArray, List.set_cons_succ, List.set_cons_zero]
  refine wpAnyH_take (i := 7) (v := .int .i64 b) rfl (by kernel_rfl) (by kernel_rfl) (by kernel_rfl) (fun _ _ _ h => no_panic h.1) (yields_of rfl (fun w' hw' => by obtain ⟨y1, y2, -, -⟩ := hw'; go_simp)) hS_w0 ?_
  try simp only [List.getElem_toArray, List.getElem_cons_succ, List.getElem_cons_zero, Act.put, List.setIfInBounds_toArray, List.set_cons_succ, List.set_cons_zero]
  refine wpAnyH_ready (rs := [2]) (by kernel_rfl) (by simp) (AllReadyH.cons (i := 2) rfl (fun K hK => ?_) AllReadyH.nil)
  refine step_of rfl ?_
  try simp only [List.getElem_toArray, List.getElem_cons_succ, List.getElem_cons_zero, Act.put, List.setIfInBounds_toArray, List.set_cons_succ, List.set_cons_zero]
  refine wp_callC 20 #[.int .i64 a, .int .i64 5] (by go_simp) ?_
  refine (hp2.out w0).mono ?_
  rintro _ w9 ⟨rfl, e9⟩
  rw [e9]
  clear e9 w9
  refine ⟨_, rfl, hK.out _ _ hS_w0 (fun _ => ?_)⟩
  clear hK K
  try simp only [List.getElem_toArray, List.getElem_cons_succ, List.getElem_cons_zero, Act.put, List.setIfInBounds_toArray, List.set_cons_succ, List.set_cons_zero]
  refine wpAnyH_take (i := 3) (v := .int .u8 n) rfl (by kernel_rfl) (by kernel_rfl) (by kernel_rfl) (fun _ _ _ h => no_panic h.1) (yields_of rfl (fun w' hw' => by clear hw'; go_simp)) hS_w0 ?_
  try simp only [List.getElem_toArray, List.getElem_cons_succ, List.getElem_cons_zero, Act.put, List.setIfInBounds_toArray, List.set_cons_succ, List.set_cons_zero]
  refine wpAnyH_ready (rs := [4, 8]) (by kernel_rfl) (by simp) (AllReadyH.cons (i := 4) rfl (fun K hK => ?_) (AllReadyH.cons (i := 8) rfl (fun K hK => ?_) AllReadyH.nil))
  · have hS_x1 := hkS _ _ hS_w0 (below_built w0 (.cells #[.int .u8 (n : Int)] 5))
    have r4_x1 := row_built w0 (n : Int)
    refine step_of rfl (wp_val (v := .slice (some ⟨w0.heap.size, 0, none⟩) 1 1) (w' := w0.alloc (.cells #[.int .u8 (n : Int)] 5)) (by go_simp) (hK.out _ _ hS_x1 (fun _ => ?_)))
    clear hK K
    try simp only [List.getElem_toArray, List.getElem_cons_succ, List.getElem_cons_zero, Act.put, List.setIfInBounds_toArray, List.set_cons_succ, List.set_cons_zero]
    generalize w0.alloc (.cells #[.int .u8 (n : Int)] 5) = x1 at *
    refine wpAnyH_ready (rs := [5, 8]) (by kernel_rfl) (by simp) (AllReadyH.cons (i := 5) rfl (fun K hK => ?_) (AllReadyH.cons (i := 8) rfl (fun K hK => ?_) AllReadyH.nil))
    · have hcv := run_convR x1 (w0.heap.size) [(n : Int)] 1 1 rfl r4_x1.range
      refine step_of rfl (wp_val (v := .string (strOfNums [(n : Int)])) (w' := x1) (by go_simp) (hK.out _ _ hS_x1 (fun _ => ?_)))
      clear hK K hcv
      try simp only [List.getElem_toArray, List.getElem_cons_succ, List.getElem_cons_zero, Act.put, List.setIfInBounds_toArray, List.set_cons_succ, List.set_cons_zero]
      refine wpAnyH_ready (rs := [8]) (by kernel_rfl) (by simp) (AllReadyH.cons (i := 8) rfl (fun K hK => ?_) AllReadyH.nil)
      refine step_of rfl ?_
      try simp only [List.getElem_toArray, List.getElem_cons_succ, List.getElem_cons_zero, Act.put, List.setIfInBounds_toArray, List.set_cons_succ, List.set_cons_zero]
      refine wp_callC 11 #[.int .i64 b] (by go_simp) ?_
      refine (hkey.out x1).mono ?_
      rintro _ x2 ⟨rfl, hb_x2⟩
      have hS_x2 := hkS _ _ hS_x1 hb_x2
      have r4_x1_x2 := r4_x1.below hb_x2 r4_x1.lt
      refine ⟨_, rfl, hK.out _ _ hS_x2 (fun _ => ?_)⟩
      clear hK K
      try simp only [List.getElem_toArray, List.getElem_cons_succ, List.getElem_cons_zero, Act.put, List.setIfInBounds_toArray, List.set_cons_succ, List.set_cons_zero]
      refine wpAnyH_take (i := 9) (v := .string (strOfNums [(n : Int)] ++ kb)) rfl (by kernel_rfl) (by kernel_rfl) (by kernel_rfl) (fun _ _ _ h => no_panic h.1) (yields_of rfl (fun w' hw' => by clear hw'; go_simp)) hS_x2 ?_
      try simp only [List.getElem_toArray, List.getElem_cons_succ, List.getElem_cons_zero, Act.put, List.setIfInBounds_toArray, List.set_cons_succ, List.set_cons_zero]
      refine wpAnyH_ready (rs := [10]) (by kernel_rfl) (by simp) (AllReadyH.cons (i := 10) rfl (fun K hK => ?_) AllReadyH.nil)
      refine step_of rfl ?_
      try simp only [List.getElem_toArray, List.getElem_cons_succ, List.getElem_cons_zero, Act.put, List.setIfInBounds_toArray, List.set_cons_succ, List.set_cons_zero]
      refine wp_callC 16 #[.int .i64 4, .string (strOfNums [(n : Int)] ++ kb)] (by go_simp) ?_
      refine (hfr.out x2).mono ?_
      rintro _ x3 ⟨⟨fk, fp, f1, f2, rfl⟩, hb_x3⟩
      have hS_x3 := hkS _ _ hS_x2 hb_x3
      have r4_x1_x2_x3 := r4_x1_x2.below hb_x3 r4_x1_x2.lt
      refine ⟨_, rfl, hK.out _ _ hS_x3 (fun _ => ?_)⟩
      clear hK K
      try simp only [List.getElem_toArray, List.getElem_cons_succ, List.getElem_cons_zero, Act.put, List.setIfInBounds_toArray, List.set_cons_succ, List.set_cons_zero]
      refine wpAnyH_take (i := 11) (v := .string (str (told fk fp))) rfl (by kernel_rfl) (by kernel_rfl) (by kernel_rfl) (fun _ _ _ h => no_panic h.1) (yields_of rfl (fun w' hw' => by clear hw'; go_simp)) hS_x3 ?_
      try simp only [List.getElem_toArray, List.getElem_cons_succ, List.getElem_cons_zero, Act.put, List.setIfInBounds_toArray, List.set_cons_succ, List.set_cons_zero]
      refine wpAnyH_done (by kernel_rfl) ⟨rfl, ?_⟩ _
      go_wp2
      go_ret
      exact ⟨⟨fk, fp, f1, f2, rfl⟩, hS_x3.2.2.1⟩
    · refine step_of rfl ?_
      try simp only [List.getElem_toArray, List.getElem_cons_succ, List.getElem_cons_zero, Act.put, List.setIfInBounds_toArray, List.set_cons_succ, List.set_cons_zero]
      refine wp_callC 11 #[.int .i64 b] (by go_simp) ?_
      refine (hkey.out x1).mono ?_
      rintro _ x4 ⟨rfl, hb_x4⟩
      have hS_x4 := hkS _ _ hS_x1 hb_x4
      have r4_x1_x4 := r4_x1.below hb_x4 r4_x1.lt
      refine ⟨_, rfl, hK.out _ _ hS_x4 (fun _ => ?_)⟩
      clear hK K
      try simp only [List.getElem_toArray, List.getElem_cons_succ, List.getElem_cons_zero, Act.put, List.setIfInBounds_toArray, List.set_cons_succ, List.set_cons_zero]
      refine wpAnyH_ready (rs := [5]) (by kernel_rfl) (by simp) (AllReadyH.cons (i := 5) rfl (fun K hK => ?_) AllReadyH.nil)
      have hcv := run_convR x4 (w0.heap.size) [(n : Int)] 1 1 rfl r4_x1_x4.range
      refine step_of rfl (wp_val (v := .string (strOfNums [(n : Int)])) (w' := x4) (by go_simp) (hK.out _ _ hS_x4 (fun _ => ?_)))
      clear hK K hcv
      try simp only [List.getElem_toArray, List.getElem_cons_succ, List.getElem_cons_zero, Act.put, List.setIfInBounds_toArray, List.set_cons_succ, List.set_cons_zero]
      refine wpAnyH_take (i := 9) (v := .string (strOfNums [(n : Int)] ++ kb)) rfl (by kernel_rfl) (by kernel_rfl) (by kernel_rfl) (fun _ _ _ h => no_panic h.1) (yields_of rfl (fun w' hw' => by clear hw'; go_simp)) hS_x4 ?_
      try simp only [List.getElem_toArray, List.getElem_cons_succ, List.getElem_cons_zero, Act.put, List.setIfInBounds_toArray, List.set_cons_succ, List.set_cons_zero]
      refine wpAnyH_ready (rs := [10]) (by kernel_rfl) (by simp) (AllReadyH.cons (i := 10) rfl (fun K hK => ?_) AllReadyH.nil)
      refine step_of rfl ?_
      try simp only [List.getElem_toArray, List.getElem_cons_succ, List.getElem_cons_zero, Act.put, List.setIfInBounds_toArray, List.set_cons_succ, List.set_cons_zero]
      refine wp_callC 16 #[.int .i64 4, .string (strOfNums [(n : Int)] ++ kb)] (by go_simp) ?_
      refine (hfr.out x4).mono ?_
      rintro _ x5 ⟨⟨fk, fp, f1, f2, rfl⟩, hb_x5⟩
      have hS_x5 := hkS _ _ hS_x4 hb_x5
      have r4_x1_x4_x5 := r4_x1_x4.below hb_x5 r4_x1_x4.lt
      refine ⟨_, rfl, hK.out _ _ hS_x5 (fun _ => ?_)⟩
      clear hK K
      try simp only [List.getElem_toArray, List.getElem_cons_succ, List.getElem_cons_zero, Act.put, List.setIfInBounds_toArray, List.set_cons_succ, List.set_cons_zero]
      refine wpAnyH_take (i := 11) (v := .string (str (told fk fp))) rfl (by kernel_rfl) (by kernel_rfl) (by kernel_rfl) (fun _ _ _ h => no_panic h.1) (yields_of rfl (fun w' hw' => by clear hw'; go_simp)) hS_x5 ?_
      try simp only [List.getElem_toArray, List.getElem_cons_succ, List.getElem_cons_zero, Act.put, List.setIfInBounds_toArray, List.set_cons_succ, List.set_cons_zero]
      refine wpAnyH_done (by kernel_rfl) ⟨rfl, ?_⟩ _
      go_wp2
      go_ret
      exact ⟨⟨fk, fp, f1, f2, rfl⟩, hS_x5.2.2.1⟩
  · refine step_of rfl ?_
    try simp only [List.getElem_toArray, List.getElem_cons_succ, List.getElem_cons_zero, Act.put, List.setIfInBounds_toArray, List.set_cons_succ, List.set_cons_zero]
    refine wp_callC 11 #[.int .i64 b] (by go_simp) ?_
    refine (hkey.out w0).mono ?_
    rintro _ x6 ⟨rfl, hb_x6⟩
    have hS_x6 := hkS _ _ hS_w0 hb_x6
    refine ⟨_, rfl, hK.out _ _ hS_x6 (fun _ => ?_)⟩
    clear hK K
    try simp only [List.getElem_toArray, List.getElem_cons_succ, List.getElem_cons_zero, Act.put, List.setIfInBounds_toArray, List.set_cons_succ, List.set_cons_zero]
    refine wpAnyH_ready (rs := [4]) (by kernel_rfl) (by simp) (AllReadyH.cons (i := 4) rfl (fun K hK => ?_) AllReadyH.nil)
    have hS_x7 := hkS _ _ hS_x6 (below_built x6 (.cells #[.int .u8 (n : Int)] 5))
    have r4_x7 := row_built x6 (n : Int)
    refine step_of rfl (wp_val (v := .slice (some ⟨x6.heap.size, 0, none⟩) 1 1) (w' := x6.alloc (.cells #[.int .u8 (n : Int)] 5)) (by go_simp) (hK.out _ _ hS_x7 (fun _ => ?_)))
    clear hK K
    try simp only [List.getElem_toArray, List.getElem_cons_succ, List.getElem_cons_zero, Act.put, List.setIfInBounds_toArray, List.set_cons_succ, List.set_cons_zero]
    generalize x6.alloc (.cells #[.int .u8 (n : Int)] 5) = x7 at *
    refine wpAnyH_ready (rs := [5]) (by kernel_rfl) (by simp) (AllReadyH.cons (i := 5) rfl (fun K hK => ?_) AllReadyH.nil)
    have hcv := run_convR x7 (x6.heap.size) [(n : Int)] 1 1 rfl r4_x7.range
    refine step_of rfl (wp_val (v := .string (strOfNums [(n : Int)])) (w' := x7) (by go_simp) (hK.out _ _ hS_x7 (fun _ => ?_)))
    clear hK K hcv
    try simp only [List.getElem_toArray, List.getElem_cons_succ, List.getElem_cons_zero, Act.put, List.setIfInBounds_toArray, List.set_cons_succ, List.set_cons_zero]
    refine wpAnyH_take (i := 9) (v := .string (strOfNums [(n : Int)] ++ kb)) rfl (by kernel_rfl) (by kernel_rfl) (by kernel_rfl) (fun _ _ _ h => no_panic h.1) (yields_of rfl (fun w' hw' => by clear hw'; go_simp)) hS_x7 ?_
    try simp only [List.getElem_toArray, List.getElem_cons_succ, List.getElem_cons_zero, Act.put, List.setIfInBounds_toArray, List.set_cons_succ, List.set_cons_zero]
    refine wpAnyH_ready (rs := [10]) (by kernel_rfl) (by simp) (AllReadyH.cons (i := 10) rfl (fun K hK => ?_) AllReadyH.nil)
    refine step_of rfl ?_
    try simp only [List.getElem_toArray, List.getElem_cons_succ, List.getElem_cons_zero, Act.put, List.setIfInBounds_toArray, List.set_cons_succ, List.set_cons_zero]
    refine wp_callC 16 #[.int .i64 4, .string (strOfNums [(n : Int)] ++ kb)] (by go_simp) ?_
    refine (hfr.out x7).mono ?_
    rintro _ x8 ⟨⟨fk, fp, f1, f2, rfl⟩, hb_x8⟩
    have hS_x8 := hkS _ _ hS_x7 hb_x8
    have r4_x7_x8 := r4_x7.below hb_x8 r4_x7.lt
    refine ⟨_, rfl, hK.out _ _ hS_x8 (fun _ => ?_)⟩
    clear hK K
    try simp only [List.getElem_toArray, List.getElem_cons_succ, List.getElem_cons_zero, Act.put, List.setIfInBounds_toArray, List.set_cons_succ, List.set_cons_zero]
    refine wpAnyH_take (i := 11) (v := .string (str (told fk fp))) rfl (by kernel_rfl) (by kernel_rfl) (by kernel_rfl) (fun _ _ _ h => no_panic h.1) (yields_of rfl (fun w' hw' => by clear hw'; go_simp)) hS_x8 ?_
    try simp only [List.getElem_toArray, List.getElem_cons_succ, List.getElem_cons_zero, Act.put, List.setIfInBounds_toArray, List.set_cons_succ, List.set_cons_zero]
    refine wpAnyH_done (by kernel_rfl) ⟨rfl, ?_⟩ _
    go_wp2
    go_ret
    exact ⟨⟨fk, fp, f1, f2, rfl⟩, hS_x8.2.2.1⟩

set_option linter.unusedSimpArgs false in
set_option maxRecDepth 100000 in
set_option maxHeartbeats 16000000 in
theorem keep_ask6 (k a b : Int) (W : World) (hI : (-9223372036854775808 ≤ k ∧ k ≤ 9223372036854775807) ∧ (-9223372036854775808 ≤ a ∧ a ≤ 9223372036854775807) ∧ (-9223372036854775808 ≤ b ∧ b ≤ 9223372036854775807)) (hv : pickN k 10 = 6) :
    Calls Tryd.prog 18 #[.agg #[.int .i64 k, .int .i64 a, .int .i64 b]] W fun r w' => IsFrame r ∧ Below W.heap.size W w' := by
  have hpk : Hid (∀ W, Calls Tryd.prog 20 #[.int .i64 k, .int .i64 10] W fun r w' => r = .returned (.int .i64 6) ∧ w' = W) := fun W => by
    have := keep_pick k 10 W hI.1.1 hI.1.2 (by omega) (by omega)
    rw [hv] at this
    exact this
  clear hv
  have tp : Hid True := trivial
  obtain ⟨n, HN⟩ : ∃ n, Hid (n = pickN a 5) := ⟨_, rfl⟩
  have hn4 : n < 5 := by rw [HN.out]; exact pickN_lt _ (by omega)
  have hp2 : Hid (∀ W, Calls Tryd.prog 20 #[.int .i64 a, .int .i64 5] W fun r w' => r = .returned (.int .i64 n) ∧ w' = W) := fun W => by rw [HN.out]; exact keep_pick _ 5 W hI.2.1.1 hI.2.1.2 (by omega) (by omega)
  obtain ⟨q, HQ⟩ : ∃ q, Hid (q = pickN b 256) := ⟨_, rfl⟩
  have hq4 : q < 256 := by rw [HQ.out]; exact pickN_lt _ (by omega)
  have hp3 : Hid (∀ W, Calls Tryd.prog 20 #[.int .i64 b, .int .i64 256] W fun r w' => r = .returned (.int .i64 q) ∧ w' = W) := fun W => by rw [HQ.out]; exact keep_pick _ 256 W hI.2.2.1 hI.2.2.2 (by omega) (by omega)
  have hq8 : (q : Int) % 256 = q := by omega
  have hn8 : (n : Int) % 256 = n := by omega
  have hw8 : ∀ x : Int, IntKind.u8.wrap x = x % 256 := u8_wrap
  have hz1 := size1
  have hz3 : (⟨#[0, 0, 0, 0, 0, 0, 0]⟩ : ByteArray).size = 7 := rfl
  have hfr : Hid (∀ W, Calls Tryd.prog 16 #[.int .i64 5, .string (strOfNums [(n : Int)] ++ (⟨#[0, 0, 0, 0, 0, 0, 0]⟩ : ByteArray) ++ strOfNums [(q : Int)])] W fun r w' => IsFrame r ∧ Below W.heap.size W w') := fun W => frame_any 5 (strOfNums [(n : Int)] ++ (⟨#[0, 0, 0, 0, 0, 0, 0]⟩ : ByteArray) ++ strOfNums [(q : Int)]) W (by omega) (by rw [ByteArray.size_append, ByteArray.size_append, size1, size1, hz3]; omega)
  have r0 : Row (W.alloc (.cells #[.int .i64 k, .int .i64 a, .int .i64 b] 40)).drew W.heap.size [.int .i64 k, .int .i64 a, .int .i64 b] 40 := (Row.made _ _ _).drew
  have hkS : ∀ X X' : World, (X.cell? ⟨W.heap.size, 1, none⟩ = some (.int .i64 a) ∧ X.cell? ⟨W.heap.size, 2, none⟩ = some (.int .i64 b) ∧ Below W.heap.size W X ∧ W.heap.size < X.heap.size) → Below X.heap.size X X' → (X'.cell? ⟨W.heap.size, 1, none⟩ = some (.int .i64 a) ∧ X'.cell? ⟨W.heap.size, 2, none⟩ = some (.int .i64 b) ∧ Below W.heap.size W X' ∧ W.heap.size < X'.heap.size) := fun X X' h hb => ⟨(hb.cell (p := ⟨W.heap.size, 1, none⟩) h.2.2.2).trans h.1, (hb.cell (p := ⟨W.heap.size, 2, none⟩) h.2.2.2).trans h.2.1, h.2.2.1.trans (hb.mono h.2.2.1.size), Nat.lt_of_lt_of_le h.2.2.2 hb.size⟩
  have hS0 : (fun X : World => X.cell? ⟨W.heap.size, 1, none⟩ = some (.int .i64 a) ∧ X.cell? ⟨W.heap.size, 2, none⟩ = some (.int .i64 b) ∧ Below W.heap.size W X ∧ W.heap.size < X.heap.size) (W.alloc (.cells #[.int .i64 k, .int .i64 a, .int .i64 b] 40)).drew := ⟨r0.cell.trans rfl, r0.cell.trans rfl, ((Below.refl _ _).alloc (Nat.le_refl _) _).drew, r0.lt⟩
  go_enter Tryd.func18, Tryd.ntmps18
  go_wp2_with (go_at_call 20; have tk := tp; clear tk tp; refine (hpk.out _).mono ?_; rintro _ wk ⟨rfl, ek⟩; rw [ek]; clear ek wk)
  refine wp_normalK ?_
  refine wp_region_letter (S := fun X => X.cell? ⟨W.heap.size, 1, none⟩ = some (.int .i64 a) ∧ X.cell? ⟨W.heap.size, 2, none⟩ = some (.int .i64 b) ∧ Below W.heap.size W X ∧ W.heap.size < X.heap.size) (by kernel_rfl) hS0 ?_
  intro w0 hS_w0
  refine wpAnyH_take (i := 0) (v := .pointer (some ⟨W.heap.size, 1, none⟩)) rfl (by kernel_rfl) (by kernel_rfl) (by kernel_rfl) (fun _ _ _ h => no_panic h.1) (yields_of rfl (fun w' hw' => by clear hw'; go_simp)) hS_w0 ?_
  try simp only [List.getElem_toArray, List.getElem_cons_succ, List.getElem_cons_zero, Act.put, List.setIfInBounds_toArray, List.set_cons_succ, List.set_cons_zero]
  refine wpAnyH_take (i := 1) (v := .int .i64 a) rfl (by kernel_rfl) (by kernel_rfl) (by kernel_rfl) (fun _ _ _ h => no_panic h.1) (yields_of rfl (fun w' hw' => by obtain ⟨y1, y2, -, -⟩ := hw'; go_simp)) hS_w0 ?_
  try simp only [List.getElem_toArray, List.getElem_cons_succ, List.getElem_cons_zero, Act.put, List.setIfInBounds_toArray, List.set_cons_succ, List.set_cons_zero]
  refine wpAnyH_take (i := 7) (v := .pointer (some ⟨W.heap.size, 2, none⟩)) rfl (by kernel_rfl) (by kernel_rfl) (by kernel_rfl) (fun _ _ _ h => no_panic h.1) (yields_of rfl (fun w' hw' => by clear hw'; go_simp)) hS_w0 ?_
  try simp only [List.getElem_toArray, List.getElem_cons_succ, List.getElem_cons_zero, Act.put, List.setIfInBounds_toArray, List.set_cons_succ, List.set_cons_zero]
  refine wpAnyH_take (i := 8) (v := .int .i64 b) rfl (by kernel_rfl) (by kernel_rfl) (by kernel_rfl) (fun _ _ _ h => no_panic h.1) (yields_of rfl (fun w' hw' => by obtain ⟨y1, y2, -, -⟩ := hw'; go_simp)) hS_w0 ?_
  try simp only [List.getElem_toArray, List.getElem_cons_succ, List.getElem_cons_zero, Act.put, List.setIfInBounds_toArray, List.set_cons_succ, List.set_cons_zero]
  refine wpAnyH_ready (rs := [2]) (by kernel_rfl) (by simp) (AllReadyH.cons (i := 2) rfl (fun K hK => ?_) AllReadyH.nil)
  refine step_of rfl ?_
  try simp only [List.getElem_toArray, List.getElem_cons_succ, List.getElem_cons_zero, Act.put, List.setIfInBounds_toArray, List.set_cons_succ, List.set_cons_zero]
  refine wp_callC 20 #[.int .i64 a, .int .i64 5] (by go_simp) ?_
  refine (hp2.out w0).mono ?_
  rintro _ w9 ⟨rfl, e9⟩
  rw [e9]
  clear e9 w9
  refine ⟨_, rfl, hK.out _ _ hS_w0 (fun _ => ?_)⟩
  clear hK K
  try simp only [List.getElem_toArray, List.getElem_cons_succ, List.getElem_cons_zero, Act.put, List.setIfInBounds_toArray, List.set_cons_succ, List.set_cons_zero]
  refine wpAnyH_take (i := 3) (v := .int .u8 n) rfl (by kernel_rfl) (by kernel_rfl) (by kernel_rfl) (fun _ _ _ h => no_panic h.1) (yields_of rfl (fun w' hw' => by clear hw'; go_simp)) hS_w0 ?_
  try simp only [List.getElem_toArray, List.getElem_cons_succ, List.getElem_cons_zero, Act.put, List.setIfInBounds_toArray, List.set_cons_succ, List.set_cons_zero]
  refine wpAnyH_ready (rs := [4, 9]) (by kernel_rfl) (by simp) (AllReadyH.cons (i := 4) rfl (fun K hK => ?_) (AllReadyH.cons (i := 9) rfl (fun K hK => ?_) AllReadyH.nil))
  · have hS_x1 := hkS _ _ hS_w0 (below_built w0 (.cells #[.int .u8 (n : Int)] 5))
    have r4_x1 := row_built w0 (n : Int)
    refine step_of rfl (wp_val (v := .slice (some ⟨w0.heap.size, 0, none⟩) 1 1) (w' := w0.alloc (.cells #[.int .u8 (n : Int)] 5)) (by go_simp) (hK.out _ _ hS_x1 (fun _ => ?_)))
    clear hK K
    try simp only [List.getElem_toArray, List.getElem_cons_succ, List.getElem_cons_zero, Act.put, List.setIfInBounds_toArray, List.set_cons_succ, List.set_cons_zero]
    generalize w0.alloc (.cells #[.int .u8 (n : Int)] 5) = x1 at *
    refine wpAnyH_ready (rs := [5, 9]) (by kernel_rfl) (by simp) (AllReadyH.cons (i := 5) rfl (fun K hK => ?_) (AllReadyH.cons (i := 9) rfl (fun K hK => ?_) AllReadyH.nil))
    · have hcv := run_convR x1 (w0.heap.size) [(n : Int)] 1 1 rfl r4_x1.range
      refine step_of rfl (wp_val (v := .string (strOfNums [(n : Int)])) (w' := x1) (by go_simp) (hK.out _ _ hS_x1 (fun _ => ?_)))
      clear hK K hcv
      try simp only [List.getElem_toArray, List.getElem_cons_succ, List.getElem_cons_zero, Act.put, List.setIfInBounds_toArray, List.set_cons_succ, List.set_cons_zero]
      refine wpAnyH_take (i := 6) (v := .string (strOfNums [(n : Int)] ++ (⟨#[0, 0, 0, 0, 0, 0, 0]⟩ : ByteArray))) rfl (by kernel_rfl) (by kernel_rfl) (by kernel_rfl) (fun _ _ _ h => no_panic h.1) (yields_of rfl (fun w' hw' => by clear hw'; go_simp)) hS_x1 ?_
      try simp only [List.getElem_toArray, List.getElem_cons_succ, List.getElem_cons_zero, Act.put, List.setIfInBounds_toArray, List.set_cons_succ, List.set_cons_zero]
      refine wpAnyH_ready (rs := [9]) (by kernel_rfl) (by simp) (AllReadyH.cons (i := 9) rfl (fun K hK => ?_) AllReadyH.nil)
      refine step_of rfl ?_
      try simp only [List.getElem_toArray, List.getElem_cons_succ, List.getElem_cons_zero, Act.put, List.setIfInBounds_toArray, List.set_cons_succ, List.set_cons_zero]
      refine wp_callC 20 #[.int .i64 b, .int .i64 256] (by go_simp) ?_
      refine (hp3.out x1).mono ?_
      rintro _ w9 ⟨rfl, e9⟩
      rw [e9]
      clear e9 w9
      refine ⟨_, rfl, hK.out _ _ hS_x1 (fun _ => ?_)⟩
      clear hK K
      try simp only [List.getElem_toArray, List.getElem_cons_succ, List.getElem_cons_zero, Act.put, List.setIfInBounds_toArray, List.set_cons_succ, List.set_cons_zero]
      refine wpAnyH_take (i := 10) (v := .int .u8 q) rfl (by kernel_rfl) (by kernel_rfl) (by kernel_rfl) (fun _ _ _ h => no_panic h.1) (yields_of rfl (fun w' hw' => by clear hw'; go_simp)) hS_x1 ?_
      try simp only [List.getElem_toArray, List.getElem_cons_succ, List.getElem_cons_zero, Act.put, List.setIfInBounds_toArray, List.set_cons_succ, List.set_cons_zero]
      refine wpAnyH_ready (rs := [11]) (by kernel_rfl) (by simp) (AllReadyH.cons (i := 11) rfl (fun K hK => ?_) AllReadyH.nil)
      have hS_x2 := hkS _ _ hS_x1 (below_built x1 (.cells #[.int .u8 (q : Int)] 5))
      have r11_x2 := row_built x1 (q : Int)
      have r4_x1_x2 := r4_x1.below (below_built x1 (.cells #[.int .u8 (q : Int)] 5)) r4_x1.lt
      refine step_of rfl (wp_val (v := .slice (some ⟨x1.heap.size, 0, none⟩) 1 1) (w' := x1.alloc (.cells #[.int .u8 (q : Int)] 5)) (by go_simp) (hK.out _ _ hS_x2 (fun _ => ?_)))
      clear hK K
      try simp only [List.getElem_toArray, List.getElem_cons_succ, List.getElem_cons_zero, Act.put, List.setIfInBounds_toArray, List.set_cons_succ, List.set_cons_zero]
      generalize x1.alloc (.cells #[.int .u8 (q : Int)] 5) = x2 at *
      refine wpAnyH_ready (rs := [12]) (by kernel_rfl) (by simp) (AllReadyH.cons (i := 12) rfl (fun K hK => ?_) AllReadyH.nil)
      have hcv := run_convR x2 (x1.heap.size) [(q : Int)] 1 1 rfl r11_x2.range
      refine step_of rfl (wp_val (v := .string (strOfNums [(q : Int)])) (w' := x2) (by go_simp) (hK.out _ _ hS_x2 (fun _ => ?_)))
      clear hK K hcv
      try simp only [List.getElem_toArray, List.getElem_cons_succ, List.getElem_cons_zero, Act.put, List.setIfInBounds_toArray, List.set_cons_succ, List.set_cons_zero]
      refine wpAnyH_take (i := 13) (v := .string (strOfNums [(n : Int)] ++ (⟨#[0, 0, 0, 0, 0, 0, 0]⟩ : ByteArray) ++ strOfNums [(q : Int)])) rfl (by kernel_rfl) (by kernel_rfl) (by kernel_rfl) (fun _ _ _ h => no_panic h.1) (yields_of rfl (fun w' hw' => by clear hw'; go_simp)) hS_x2 ?_
      try simp only [List.getElem_toArray, List.getElem_cons_succ, List.getElem_cons_zero, Act.put, List.setIfInBounds_toArray, List.set_cons_succ, List.set_cons_zero]
      refine wpAnyH_ready (rs := [14]) (by kernel_rfl) (by simp) (AllReadyH.cons (i := 14) rfl (fun K hK => ?_) AllReadyH.nil)
      refine step_of rfl ?_
      try simp only [List.getElem_toArray, List.getElem_cons_succ, List.getElem_cons_zero, Act.put, List.setIfInBounds_toArray, List.set_cons_succ, List.set_cons_zero]
      refine wp_callC 16 #[.int .i64 5, .string (strOfNums [(n : Int)] ++ (⟨#[0, 0, 0, 0, 0, 0, 0]⟩ : ByteArray) ++ strOfNums [(q : Int)])] (by go_simp) ?_
      refine (hfr.out x2).mono ?_
      rintro _ x3 ⟨⟨fk, fp, f1, f2, rfl⟩, hb_x3⟩
      have hS_x3 := hkS _ _ hS_x2 hb_x3
      have r4_x1_x2_x3 := r4_x1_x2.below hb_x3 r4_x1_x2.lt
      have r11_x2_x3 := r11_x2.below hb_x3 r11_x2.lt
      refine ⟨_, rfl, hK.out _ _ hS_x3 (fun _ => ?_)⟩
      clear hK K
      try simp only [List.getElem_toArray, List.getElem_cons_succ, List.getElem_cons_zero, Act.put, List.setIfInBounds_toArray, List.set_cons_succ, List.set_cons_zero]
      refine wpAnyH_take (i := 15) (v := .string (str (told fk fp))) rfl (by kernel_rfl) (by kernel_rfl) (by kernel_rfl) (fun _ _ _ h => no_panic h.1) (yields_of rfl (fun w' hw' => by clear hw'; go_simp)) hS_x3 ?_
      try simp only [List.getElem_toArray, List.getElem_cons_succ, List.getElem_cons_zero, Act.put, List.setIfInBounds_toArray, List.set_cons_succ, List.set_cons_zero]
      refine wpAnyH_done (by kernel_rfl) ⟨rfl, ?_⟩ _
      go_wp2
      go_ret
      exact ⟨⟨fk, fp, f1, f2, rfl⟩, hS_x3.2.2.1⟩
    · refine step_of rfl ?_
      try simp only [List.getElem_toArray, List.getElem_cons_succ, List.getElem_cons_zero, Act.put, List.setIfInBounds_toArray, List.set_cons_succ, List.set_cons_zero]
      refine wp_callC 20 #[.int .i64 b, .int .i64 256] (by go_simp) ?_
      refine (hp3.out x1).mono ?_
      rintro _ w9 ⟨rfl, e9⟩
      rw [e9]
      clear e9 w9
      refine ⟨_, rfl, hK.out _ _ hS_x1 (fun _ => ?_)⟩
      clear hK K
      try simp only [List.getElem_toArray, List.getElem_cons_succ, List.getElem_cons_zero, Act.put, List.setIfInBounds_toArray, List.set_cons_succ, List.set_cons_zero]
      refine wpAnyH_take (i := 10) (v := .int .u8 q) rfl (by kernel_rfl) (by kernel_rfl) (by kernel_rfl) (fun _ _ _ h => no_panic h.1) (yields_of rfl (fun w' hw' => by clear hw'; go_simp)) hS_x1 ?_
      try simp only [List.getElem_toArray, List.getElem_cons_succ, List.getElem_cons_zero, Act.put, List.setIfInBounds_toArray, List.set_cons_succ, List.set_cons_zero]
      refine wpAnyH_ready (rs := [5, 11]) (by kernel_rfl) (by simp) (AllReadyH.cons (i := 5) rfl (fun K hK => ?_) (AllReadyH.cons (i := 11) rfl (fun K hK => ?_) AllReadyH.nil))
      · have hcv := run_convR x1 (w0.heap.size) [(n : Int)] 1 1 rfl r4_x1.range
        refine step_of rfl (wp_val (v := .string (strOfNums [(n : Int)])) (w' := x1) (by go_simp) (hK.out _ _ hS_x1 (fun _ => ?_)))
        clear hK K hcv
        try simp only [List.getElem_toArray, List.getElem_cons_succ, List.getElem_cons_zero, Act.put, List.setIfInBounds_toArray, List.set_cons_succ, List.set_cons_zero]
        refine wpAnyH_take (i := 6) (v := .string (strOfNums [(n : Int)] ++ (⟨#[0, 0, 0, 0, 0, 0, 0]⟩ : ByteArray))) rfl (by kernel_rfl) (by kernel_rfl) (by kernel_rfl) (fun _ _ _ h => no_panic h.1) (yields_of rfl (fun w' hw' => by clear hw'; go_simp)) hS_x1 ?_
        try simp only [List.getElem_toArray, List.getElem_cons_succ, List.getElem_cons_zero, Act.put, List.setIfInBounds_toArray, List.set_cons_succ, List.set_cons_zero]
        refine wpAnyH_ready (rs := [11]) (by kernel_rfl) (by simp) (AllReadyH.cons (i := 11) rfl (fun K hK => ?_) AllReadyH.nil)
        have hS_x4 := hkS _ _ hS_x1 (below_built x1 (.cells #[.int .u8 (q : Int)] 5))
        have r11_x4 := row_built x1 (q : Int)
        have r4_x1_x4 := r4_x1.below (below_built x1 (.cells #[.int .u8 (q : Int)] 5)) r4_x1.lt
        refine step_of rfl (wp_val (v := .slice (some ⟨x1.heap.size, 0, none⟩) 1 1) (w' := x1.alloc (.cells #[.int .u8 (q : Int)] 5)) (by go_simp) (hK.out _ _ hS_x4 (fun _ => ?_)))
        clear hK K
        try simp only [List.getElem_toArray, List.getElem_cons_succ, List.getElem_cons_zero, Act.put, List.setIfInBounds_toArray, List.set_cons_succ, List.set_cons_zero]
        generalize x1.alloc (.cells #[.int .u8 (q : Int)] 5) = x4 at *
        refine wpAnyH_ready (rs := [12]) (by kernel_rfl) (by simp) (AllReadyH.cons (i := 12) rfl (fun K hK => ?_) AllReadyH.nil)
        have hcv := run_convR x4 (x1.heap.size) [(q : Int)] 1 1 rfl r11_x4.range
        refine step_of rfl (wp_val (v := .string (strOfNums [(q : Int)])) (w' := x4) (by go_simp) (hK.out _ _ hS_x4 (fun _ => ?_)))
        clear hK K hcv
        try simp only [List.getElem_toArray, List.getElem_cons_succ, List.getElem_cons_zero, Act.put, List.setIfInBounds_toArray, List.set_cons_succ, List.set_cons_zero]
        refine wpAnyH_take (i := 13) (v := .string (strOfNums [(n : Int)] ++ (⟨#[0, 0, 0, 0, 0, 0, 0]⟩ : ByteArray) ++ strOfNums [(q : Int)])) rfl (by kernel_rfl) (by kernel_rfl) (by kernel_rfl) (fun _ _ _ h => no_panic h.1) (yields_of rfl (fun w' hw' => by clear hw'; go_simp)) hS_x4 ?_
        try simp only [List.getElem_toArray, List.getElem_cons_succ, List.getElem_cons_zero, Act.put, List.setIfInBounds_toArray, List.set_cons_succ, List.set_cons_zero]
        refine wpAnyH_ready (rs := [14]) (by kernel_rfl) (by simp) (AllReadyH.cons (i := 14) rfl (fun K hK => ?_) AllReadyH.nil)
        refine step_of rfl ?_
        try simp only [List.getElem_toArray, List.getElem_cons_succ, List.getElem_cons_zero, Act.put, List.setIfInBounds_toArray, List.set_cons_succ, List.set_cons_zero]
        refine wp_callC 16 #[.int .i64 5, .string (strOfNums [(n : Int)] ++ (⟨#[0, 0, 0, 0, 0, 0, 0]⟩ : ByteArray) ++ strOfNums [(q : Int)])] (by go_simp) ?_
        refine (hfr.out x4).mono ?_
        rintro _ x5 ⟨⟨fk, fp, f1, f2, rfl⟩, hb_x5⟩
        have hS_x5 := hkS _ _ hS_x4 hb_x5
        have r4_x1_x4_x5 := r4_x1_x4.below hb_x5 r4_x1_x4.lt
        have r11_x4_x5 := r11_x4.below hb_x5 r11_x4.lt
        refine ⟨_, rfl, hK.out _ _ hS_x5 (fun _ => ?_)⟩
        clear hK K
        try simp only [List.getElem_toArray, List.getElem_cons_succ, List.getElem_cons_zero, Act.put, List.setIfInBounds_toArray, List.set_cons_succ, List.set_cons_zero]
        refine wpAnyH_take (i := 15) (v := .string (str (told fk fp))) rfl (by kernel_rfl) (by kernel_rfl) (by kernel_rfl) (fun _ _ _ h => no_panic h.1) (yields_of rfl (fun w' hw' => by clear hw'; go_simp)) hS_x5 ?_
        try simp only [List.getElem_toArray, List.getElem_cons_succ, List.getElem_cons_zero, Act.put, List.setIfInBounds_toArray, List.set_cons_succ, List.set_cons_zero]
        refine wpAnyH_done (by kernel_rfl) ⟨rfl, ?_⟩ _
        go_wp2
        go_ret
        exact ⟨⟨fk, fp, f1, f2, rfl⟩, hS_x5.2.2.1⟩
      · have hS_x6 := hkS _ _ hS_x1 (below_built x1 (.cells #[.int .u8 (q : Int)] 5))
        have r11_x6 := row_built x1 (q : Int)
        have r4_x1_x6 := r4_x1.below (below_built x1 (.cells #[.int .u8 (q : Int)] 5)) r4_x1.lt
        refine step_of rfl (wp_val (v := .slice (some ⟨x1.heap.size, 0, none⟩) 1 1) (w' := x1.alloc (.cells #[.int .u8 (q : Int)] 5)) (by go_simp) (hK.out _ _ hS_x6 (fun _ => ?_)))
        clear hK K
        try simp only [List.getElem_toArray, List.getElem_cons_succ, List.getElem_cons_zero, Act.put, List.setIfInBounds_toArray, List.set_cons_succ, List.set_cons_zero]
        generalize x1.alloc (.cells #[.int .u8 (q : Int)] 5) = x6 at *
        refine wpAnyH_ready (rs := [5, 12]) (by kernel_rfl) (by simp) (AllReadyH.cons (i := 5) rfl (fun K hK => ?_) (AllReadyH.cons (i := 12) rfl (fun K hK => ?_) AllReadyH.nil))
        · have hcv := run_convR x6 (w0.heap.size) [(n : Int)] 1 1 rfl r4_x1_x6.range
          refine step_of rfl (wp_val (v := .string (strOfNums [(n : Int)])) (w' := x6) (by go_simp) (hK.out _ _ hS_x6 (fun _ => ?_)))
          clear hK K hcv
          try simp only [List.getElem_toArray, List.getElem_cons_succ, List.getElem_cons_zero, Act.put, List.setIfInBounds_toArray, List.set_cons_succ, List.set_cons_zero]
          refine wpAnyH_take (i := 6) (v := .string (strOfNums [(n : Int)] ++ (⟨#[0, 0, 0, 0, 0, 0, 0]⟩ : ByteArray))) rfl (by kernel_rfl) (by kernel_rfl) (by kernel_rfl) (fun _ _ _ h => no_panic h.1) (yields_of rfl (fun w' hw' => by clear hw'; go_simp)) hS_x6 ?_
          try simp only [List.getElem_toArray, List.getElem_cons_succ, List.getElem_cons_zero, Act.put, List.setIfInBounds_toArray, List.set_cons_succ, List.set_cons_zero]
          refine wpAnyH_ready (rs := [12]) (by kernel_rfl) (by simp) (AllReadyH.cons (i := 12) rfl (fun K hK => ?_) AllReadyH.nil)
          have hcv := run_convR x6 (x1.heap.size) [(q : Int)] 1 1 rfl r11_x6.range
          refine step_of rfl (wp_val (v := .string (strOfNums [(q : Int)])) (w' := x6) (by go_simp) (hK.out _ _ hS_x6 (fun _ => ?_)))
          clear hK K hcv
          try simp only [List.getElem_toArray, List.getElem_cons_succ, List.getElem_cons_zero, Act.put, List.setIfInBounds_toArray, List.set_cons_succ, List.set_cons_zero]
          refine wpAnyH_take (i := 13) (v := .string (strOfNums [(n : Int)] ++ (⟨#[0, 0, 0, 0, 0, 0, 0]⟩ : ByteArray) ++ strOfNums [(q : Int)])) rfl (by kernel_rfl) (by kernel_rfl) (by kernel_rfl) (fun _ _ _ h => no_panic h.1) (yields_of rfl (fun w' hw' => by clear hw'; go_simp)) hS_x6 ?_
          try simp only [List.getElem_toArray, List.getElem_cons_succ, List.getElem_cons_zero, Act.put, List.setIfInBounds_toArray, List.set_cons_succ, List.set_cons_zero]
          refine wpAnyH_ready (rs := [14]) (by kernel_rfl) (by simp) (AllReadyH.cons (i := 14) rfl (fun K hK => ?_) AllReadyH.nil)
          refine step_of rfl ?_
          try simp only [List.getElem_toArray, List.getElem_cons_succ, List.getElem_cons_zero, Act.put, List.setIfInBounds_toArray, List.set_cons_succ, List.set_cons_zero]
          refine wp_callC 16 #[.int .i64 5, .string (strOfNums [(n : Int)] ++ (⟨#[0, 0, 0, 0, 0, 0, 0]⟩ : ByteArray) ++ strOfNums [(q : Int)])] (by go_simp) ?_
          refine (hfr.out x6).mono ?_
          rintro _ x7 ⟨⟨fk, fp, f1, f2, rfl⟩, hb_x7⟩
          have hS_x7 := hkS _ _ hS_x6 hb_x7
          have r4_x1_x6_x7 := r4_x1_x6.below hb_x7 r4_x1_x6.lt
          have r11_x6_x7 := r11_x6.below hb_x7 r11_x6.lt
          refine ⟨_, rfl, hK.out _ _ hS_x7 (fun _ => ?_)⟩
          clear hK K
          try simp only [List.getElem_toArray, List.getElem_cons_succ, List.getElem_cons_zero, Act.put, List.setIfInBounds_toArray, List.set_cons_succ, List.set_cons_zero]
          refine wpAnyH_take (i := 15) (v := .string (str (told fk fp))) rfl (by kernel_rfl) (by kernel_rfl) (by kernel_rfl) (fun _ _ _ h => no_panic h.1) (yields_of rfl (fun w' hw' => by clear hw'; go_simp)) hS_x7 ?_
          try simp only [List.getElem_toArray, List.getElem_cons_succ, List.getElem_cons_zero, Act.put, List.setIfInBounds_toArray, List.set_cons_succ, List.set_cons_zero]
          refine wpAnyH_done (by kernel_rfl) ⟨rfl, ?_⟩ _
          go_wp2
          go_ret
          exact ⟨⟨fk, fp, f1, f2, rfl⟩, hS_x7.2.2.1⟩
        · have hcv := run_convR x6 (x1.heap.size) [(q : Int)] 1 1 rfl r11_x6.range
          refine step_of rfl (wp_val (v := .string (strOfNums [(q : Int)])) (w' := x6) (by go_simp) (hK.out _ _ hS_x6 (fun _ => ?_)))
          clear hK K hcv
          try simp only [List.getElem_toArray, List.getElem_cons_succ, List.getElem_cons_zero, Act.put, List.setIfInBounds_toArray, List.set_cons_succ, List.set_cons_zero]
          refine wpAnyH_ready (rs := [5]) (by kernel_rfl) (by simp) (AllReadyH.cons (i := 5) rfl (fun K hK => ?_) AllReadyH.nil)
          have hcv := run_convR x6 (w0.heap.size) [(n : Int)] 1 1 rfl r4_x1_x6.range
          refine step_of rfl (wp_val (v := .string (strOfNums [(n : Int)])) (w' := x6) (by go_simp) (hK.out _ _ hS_x6 (fun _ => ?_)))
          clear hK K hcv
          try simp only [List.getElem_toArray, List.getElem_cons_succ, List.getElem_cons_zero, Act.put, List.setIfInBounds_toArray, List.set_cons_succ, List.set_cons_zero]
          refine wpAnyH_take (i := 6) (v := .string (strOfNums [(n : Int)] ++ (⟨#[0, 0, 0, 0, 0, 0, 0]⟩ : ByteArray))) rfl (by kernel_rfl) (by kernel_rfl) (by kernel_rfl) (fun _ _ _ h => no_panic h.1) (yields_of rfl (fun w' hw' => by clear hw'; go_simp)) hS_x6 ?_
          try simp only [List.getElem_toArray, List.getElem_cons_succ, List.getElem_cons_zero, Act.put, List.setIfInBounds_toArray, List.set_cons_succ, List.set_cons_zero]
          refine wpAnyH_take (i := 13) (v := .string (strOfNums [(n : Int)] ++ (⟨#[0, 0, 0, 0, 0, 0, 0]⟩ : ByteArray) ++ strOfNums [(q : Int)])) rfl (by kernel_rfl) (by kernel_rfl) (by kernel_rfl) (fun _ _ _ h => no_panic h.1) (yields_of rfl (fun w' hw' => by clear hw'; go_simp)) hS_x6 ?_
          try simp only [List.getElem_toArray, List.getElem_cons_succ, List.getElem_cons_zero, Act.put, List.setIfInBounds_toArray, List.set_cons_succ, List.set_cons_zero]
          refine wpAnyH_ready (rs := [14]) (by kernel_rfl) (by simp) (AllReadyH.cons (i := 14) rfl (fun K hK => ?_) AllReadyH.nil)
          refine step_of rfl ?_
          try simp only [List.getElem_toArray, List.getElem_cons_succ, List.getElem_cons_zero, Act.put, List.setIfInBounds_toArray, List.set_cons_succ, List.set_cons_zero]
          refine wp_callC 16 #[.int .i64 5, .string (strOfNums [(n : Int)] ++ (⟨#[0, 0, 0, 0, 0, 0, 0]⟩ : ByteArray) ++ strOfNums [(q : Int)])] (by go_simp) ?_
          refine (hfr.out x6).mono ?_
          rintro _ x8 ⟨⟨fk, fp, f1, f2, rfl⟩, hb_x8⟩
          have hS_x8 := hkS _ _ hS_x6 hb_x8
          have r4_x1_x6_x8 := r4_x1_x6.below hb_x8 r4_x1_x6.lt
          have r11_x6_x8 := r11_x6.below hb_x8 r11_x6.lt
          refine ⟨_, rfl, hK.out _ _ hS_x8 (fun _ => ?_)⟩
          clear hK K
          try simp only [List.getElem_toArray, List.getElem_cons_succ, List.getElem_cons_zero, Act.put, List.setIfInBounds_toArray, List.set_cons_succ, List.set_cons_zero]
          refine wpAnyH_take (i := 15) (v := .string (str (told fk fp))) rfl (by kernel_rfl) (by kernel_rfl) (by kernel_rfl) (fun _ _ _ h => no_panic h.1) (yields_of rfl (fun w' hw' => by clear hw'; go_simp)) hS_x8 ?_
          try simp only [List.getElem_toArray, List.getElem_cons_succ, List.getElem_cons_zero, Act.put, List.setIfInBounds_toArray, List.set_cons_succ, List.set_cons_zero]
          refine wpAnyH_done (by kernel_rfl) ⟨rfl, ?_⟩ _
          go_wp2
          go_ret
          exact ⟨⟨fk, fp, f1, f2, rfl⟩, hS_x8.2.2.1⟩
  · refine step_of rfl ?_
    try simp only [List.getElem_toArray, List.getElem_cons_succ, List.getElem_cons_zero, Act.put, List.setIfInBounds_toArray, List.set_cons_succ, List.set_cons_zero]
    refine wp_callC 20 #[.int .i64 b, .int .i64 256] (by go_simp) ?_
    refine (hp3.out w0).mono ?_
    rintro _ w9 ⟨rfl, e9⟩
    rw [e9]
    clear e9 w9
    refine ⟨_, rfl, hK.out _ _ hS_w0 (fun _ => ?_)⟩
    clear hK K
    try simp only [List.getElem_toArray, List.getElem_cons_succ, List.getElem_cons_zero, Act.put, List.setIfInBounds_toArray, List.set_cons_succ, List.set_cons_zero]
    refine wpAnyH_take (i := 10) (v := .int .u8 q) rfl (by kernel_rfl) (by kernel_rfl) (by kernel_rfl) (fun _ _ _ h => no_panic h.1) (yields_of rfl (fun w' hw' => by clear hw'; go_simp)) hS_w0 ?_
    try simp only [List.getElem_toArray, List.getElem_cons_succ, List.getElem_cons_zero, Act.put, List.setIfInBounds_toArray, List.set_cons_succ, List.set_cons_zero]
    refine wpAnyH_ready (rs := [4, 11]) (by kernel_rfl) (by simp) (AllReadyH.cons (i := 4) rfl (fun K hK => ?_) (AllReadyH.cons (i := 11) rfl (fun K hK => ?_) AllReadyH.nil))
    · have hS_x9 := hkS _ _ hS_w0 (below_built w0 (.cells #[.int .u8 (n : Int)] 5))
      have r4_x9 := row_built w0 (n : Int)
      refine step_of rfl (wp_val (v := .slice (some ⟨w0.heap.size, 0, none⟩) 1 1) (w' := w0.alloc (.cells #[.int .u8 (n : Int)] 5)) (by go_simp) (hK.out _ _ hS_x9 (fun _ => ?_)))
      clear hK K
      try simp only [List.getElem_toArray, List.getElem_cons_succ, List.getElem_cons_zero, Act.put, List.setIfInBounds_toArray, List.set_cons_succ, List.set_cons_zero]
      generalize w0.alloc (.cells #[.int .u8 (n : Int)] 5) = x9 at *
      refine wpAnyH_ready (rs := [5, 11]) (by kernel_rfl) (by simp) (AllReadyH.cons (i := 5) rfl (fun K hK => ?_) (AllReadyH.cons (i := 11) rfl (fun K hK => ?_) AllReadyH.nil))
      · have hcv := run_convR x9 (w0.heap.size) [(n : Int)] 1 1 rfl r4_x9.range
        refine step_of rfl (wp_val (v := .string (strOfNums [(n : Int)])) (w' := x9) (by go_simp) (hK.out _ _ hS_x9 (fun _ => ?_)))
        clear hK K hcv
        try simp only [List.getElem_toArray, List.getElem_cons_succ, List.getElem_cons_zero, Act.put, List.setIfInBounds_toArray, List.set_cons_succ, List.set_cons_zero]
        refine wpAnyH_take (i := 6) (v := .string (strOfNums [(n : Int)] ++ (⟨#[0, 0, 0, 0, 0, 0, 0]⟩ : ByteArray))) rfl (by kernel_rfl) (by kernel_rfl) (by kernel_rfl) (fun _ _ _ h => no_panic h.1) (yields_of rfl (fun w' hw' => by clear hw'; go_simp)) hS_x9 ?_
        try simp only [List.getElem_toArray, List.getElem_cons_succ, List.getElem_cons_zero, Act.put, List.setIfInBounds_toArray, List.set_cons_succ, List.set_cons_zero]
        refine wpAnyH_ready (rs := [11]) (by kernel_rfl) (by simp) (AllReadyH.cons (i := 11) rfl (fun K hK => ?_) AllReadyH.nil)
        have hS_x10 := hkS _ _ hS_x9 (below_built x9 (.cells #[.int .u8 (q : Int)] 5))
        have r11_x10 := row_built x9 (q : Int)
        have r4_x9_x10 := r4_x9.below (below_built x9 (.cells #[.int .u8 (q : Int)] 5)) r4_x9.lt
        refine step_of rfl (wp_val (v := .slice (some ⟨x9.heap.size, 0, none⟩) 1 1) (w' := x9.alloc (.cells #[.int .u8 (q : Int)] 5)) (by go_simp) (hK.out _ _ hS_x10 (fun _ => ?_)))
        clear hK K
        try simp only [List.getElem_toArray, List.getElem_cons_succ, List.getElem_cons_zero, Act.put, List.setIfInBounds_toArray, List.set_cons_succ, List.set_cons_zero]
        generalize x9.alloc (.cells #[.int .u8 (q : Int)] 5) = x10 at *
        refine wpAnyH_ready (rs := [12]) (by kernel_rfl) (by simp) (AllReadyH.cons (i := 12) rfl (fun K hK => ?_) AllReadyH.nil)
        have hcv := run_convR x10 (x9.heap.size) [(q : Int)] 1 1 rfl r11_x10.range
        refine step_of rfl (wp_val (v := .string (strOfNums [(q : Int)])) (w' := x10) (by go_simp) (hK.out _ _ hS_x10 (fun _ => ?_)))
        clear hK K hcv
        try simp only [List.getElem_toArray, List.getElem_cons_succ, List.getElem_cons_zero, Act.put, List.setIfInBounds_toArray, List.set_cons_succ, List.set_cons_zero]
        refine wpAnyH_take (i := 13) (v := .string (strOfNums [(n : Int)] ++ (⟨#[0, 0, 0, 0, 0, 0, 0]⟩ : ByteArray) ++ strOfNums [(q : Int)])) rfl (by kernel_rfl) (by kernel_rfl) (by kernel_rfl) (fun _ _ _ h => no_panic h.1) (yields_of rfl (fun w' hw' => by clear hw'; go_simp)) hS_x10 ?_
        try simp only [List.getElem_toArray, List.getElem_cons_succ, List.getElem_cons_zero, Act.put, List.setIfInBounds_toArray, List.set_cons_succ, List.set_cons_zero]
        refine wpAnyH_ready (rs := [14]) (by kernel_rfl) (by simp) (AllReadyH.cons (i := 14) rfl (fun K hK => ?_) AllReadyH.nil)
        refine step_of rfl ?_
        try simp only [List.getElem_toArray, List.getElem_cons_succ, List.getElem_cons_zero, Act.put, List.setIfInBounds_toArray, List.set_cons_succ, List.set_cons_zero]
        refine wp_callC 16 #[.int .i64 5, .string (strOfNums [(n : Int)] ++ (⟨#[0, 0, 0, 0, 0, 0, 0]⟩ : ByteArray) ++ strOfNums [(q : Int)])] (by go_simp) ?_
        refine (hfr.out x10).mono ?_
        rintro _ x11 ⟨⟨fk, fp, f1, f2, rfl⟩, hb_x11⟩
        have hS_x11 := hkS _ _ hS_x10 hb_x11
        have r4_x9_x10_x11 := r4_x9_x10.below hb_x11 r4_x9_x10.lt
        have r11_x10_x11 := r11_x10.below hb_x11 r11_x10.lt
        refine ⟨_, rfl, hK.out _ _ hS_x11 (fun _ => ?_)⟩
        clear hK K
        try simp only [List.getElem_toArray, List.getElem_cons_succ, List.getElem_cons_zero, Act.put, List.setIfInBounds_toArray, List.set_cons_succ, List.set_cons_zero]
        refine wpAnyH_take (i := 15) (v := .string (str (told fk fp))) rfl (by kernel_rfl) (by kernel_rfl) (by kernel_rfl) (fun _ _ _ h => no_panic h.1) (yields_of rfl (fun w' hw' => by clear hw'; go_simp)) hS_x11 ?_
        try simp only [List.getElem_toArray, List.getElem_cons_succ, List.getElem_cons_zero, Act.put, List.setIfInBounds_toArray, List.set_cons_succ, List.set_cons_zero]
        refine wpAnyH_done (by kernel_rfl) ⟨rfl, ?_⟩ _
        go_wp2
        go_ret
        exact ⟨⟨fk, fp, f1, f2, rfl⟩, hS_x11.2.2.1⟩
      · have hS_x12 := hkS _ _ hS_x9 (below_built x9 (.cells #[.int .u8 (q : Int)] 5))
        have r11_x12 := row_built x9 (q : Int)
        have r4_x9_x12 := r4_x9.below (below_built x9 (.cells #[.int .u8 (q : Int)] 5)) r4_x9.lt
        refine step_of rfl (wp_val (v := .slice (some ⟨x9.heap.size, 0, none⟩) 1 1) (w' := x9.alloc (.cells #[.int .u8 (q : Int)] 5)) (by go_simp) (hK.out _ _ hS_x12 (fun _ => ?_)))
        clear hK K
        try simp only [List.getElem_toArray, List.getElem_cons_succ, List.getElem_cons_zero, Act.put, List.setIfInBounds_toArray, List.set_cons_succ, List.set_cons_zero]
        generalize x9.alloc (.cells #[.int .u8 (q : Int)] 5) = x12 at *
        refine wpAnyH_ready (rs := [5, 12]) (by kernel_rfl) (by simp) (AllReadyH.cons (i := 5) rfl (fun K hK => ?_) (AllReadyH.cons (i := 12) rfl (fun K hK => ?_) AllReadyH.nil))
        · have hcv := run_convR x12 (w0.heap.size) [(n : Int)] 1 1 rfl r4_x9_x12.range
          refine step_of rfl (wp_val (v := .string (strOfNums [(n : Int)])) (w' := x12) (by go_simp) (hK.out _ _ hS_x12 (fun _ => ?_)))
          clear hK K hcv
          try simp only [List.getElem_toArray, List.getElem_cons_succ, List.getElem_cons_zero, Act.put, List.setIfInBounds_toArray, List.set_cons_succ, List.set_cons_zero]
          refine wpAnyH_take (i := 6) (v := .string (strOfNums [(n : Int)] ++ (⟨#[0, 0, 0, 0, 0, 0, 0]⟩ : ByteArray))) rfl (by kernel_rfl) (by kernel_rfl) (by kernel_rfl) (fun _ _ _ h => no_panic h.1) (yields_of rfl (fun w' hw' => by clear hw'; go_simp)) hS_x12 ?_
          try simp only [List.getElem_toArray, List.getElem_cons_succ, List.getElem_cons_zero, Act.put, List.setIfInBounds_toArray, List.set_cons_succ, List.set_cons_zero]
          refine wpAnyH_ready (rs := [12]) (by kernel_rfl) (by simp) (AllReadyH.cons (i := 12) rfl (fun K hK => ?_) AllReadyH.nil)
          have hcv := run_convR x12 (x9.heap.size) [(q : Int)] 1 1 rfl r11_x12.range
          refine step_of rfl (wp_val (v := .string (strOfNums [(q : Int)])) (w' := x12) (by go_simp) (hK.out _ _ hS_x12 (fun _ => ?_)))
          clear hK K hcv
          try simp only [List.getElem_toArray, List.getElem_cons_succ, List.getElem_cons_zero, Act.put, List.setIfInBounds_toArray, List.set_cons_succ, List.set_cons_zero]
          refine wpAnyH_take (i := 13) (v := .string (strOfNums [(n : Int)] ++ (⟨#[0, 0, 0, 0, 0, 0, 0]⟩ : ByteArray) ++ strOfNums [(q : Int)])) rfl (by kernel_rfl) (by kernel_rfl) (by kernel_rfl) (fun _ _ _ h => no_panic h.1) (yields_of rfl (fun w' hw' => by clear hw'; go_simp)) hS_x12 ?_
          try simp only [List.getElem_toArray, List.getElem_cons_succ, List.getElem_cons_zero, Act.put, List.setIfInBounds_toArray, List.set_cons_succ, List.set_cons_zero]
          refine wpAnyH_ready (rs := [14]) (by kernel_rfl) (by simp) (AllReadyH.cons (i := 14) rfl (fun K hK => ?_) AllReadyH.nil)
          refine step_of rfl ?_
          try simp only [List.getElem_toArray, List.getElem_cons_succ, List.getElem_cons_zero, Act.put, List.setIfInBounds_toArray, List.set_cons_succ, List.set_cons_zero]
          refine wp_callC 16 #[.int .i64 5, .string (strOfNums [(n : Int)] ++ (⟨#[0, 0, 0, 0, 0, 0, 0]⟩ : ByteArray) ++ strOfNums [(q : Int)])] (by go_simp) ?_
          refine (hfr.out x12).mono ?_
          rintro _ x13 ⟨⟨fk, fp, f1, f2, rfl⟩, hb_x13⟩
          have hS_x13 := hkS _ _ hS_x12 hb_x13
          have r4_x9_x12_x13 := r4_x9_x12.below hb_x13 r4_x9_x12.lt
          have r11_x12_x13 := r11_x12.below hb_x13 r11_x12.lt
          refine ⟨_, rfl, hK.out _ _ hS_x13 (fun _ => ?_)⟩
          clear hK K
          try simp only [List.getElem_toArray, List.getElem_cons_succ, List.getElem_cons_zero, Act.put, List.setIfInBounds_toArray, List.set_cons_succ, List.set_cons_zero]
          refine wpAnyH_take (i := 15) (v := .string (str (told fk fp))) rfl (by kernel_rfl) (by kernel_rfl) (by kernel_rfl) (fun _ _ _ h => no_panic h.1) (yields_of rfl (fun w' hw' => by clear hw'; go_simp)) hS_x13 ?_
          try simp only [List.getElem_toArray, List.getElem_cons_succ, List.getElem_cons_zero, Act.put, List.setIfInBounds_toArray, List.set_cons_succ, List.set_cons_zero]
          refine wpAnyH_done (by kernel_rfl) ⟨rfl, ?_⟩ _
          go_wp2
          go_ret
          exact ⟨⟨fk, fp, f1, f2, rfl⟩, hS_x13.2.2.1⟩
        · have hcv := run_convR x12 (x9.heap.size) [(q : Int)] 1 1 rfl r11_x12.range
          refine step_of rfl (wp_val (v := .string (strOfNums [(q : Int)])) (w' := x12) (by go_simp) (hK.out _ _ hS_x12 (fun _ => ?_)))
          clear hK K hcv
          try simp only [List.getElem_toArray, List.getElem_cons_succ, List.getElem_cons_zero, Act.put, List.setIfInBounds_toArray, List.set_cons_succ, List.set_cons_zero]
          refine wpAnyH_ready (rs := [5]) (by kernel_rfl) (by simp) (AllReadyH.cons (i := 5) rfl (fun K hK => ?_) AllReadyH.nil)
          have hcv := run_convR x12 (w0.heap.size) [(n : Int)] 1 1 rfl r4_x9_x12.range
          refine step_of rfl (wp_val (v := .string (strOfNums [(n : Int)])) (w' := x12) (by go_simp) (hK.out _ _ hS_x12 (fun _ => ?_)))
          clear hK K hcv
          try simp only [List.getElem_toArray, List.getElem_cons_succ, List.getElem_cons_zero, Act.put, List.setIfInBounds_toArray, List.set_cons_succ, List.set_cons_zero]
          refine wpAnyH_take (i := 6) (v := .string (strOfNums [(n : Int)] ++ (⟨#[0, 0, 0, 0, 0, 0, 0]⟩ : ByteArray))) rfl (by kernel_rfl) (by kernel_rfl) (by kernel_rfl) (fun _ _ _ h => no_panic h.1) (yields_of rfl (fun w' hw' => by clear hw'; go_simp)) hS_x12 ?_
          try simp only [List.getElem_toArray, List.getElem_cons_succ, List.getElem_cons_zero, Act.put, List.setIfInBounds_toArray, List.set_cons_succ, List.set_cons_zero]
          refine wpAnyH_take (i := 13) (v := .string (strOfNums [(n : Int)] ++ (⟨#[0, 0, 0, 0, 0, 0, 0]⟩ : ByteArray) ++ strOfNums [(q : Int)])) rfl (by kernel_rfl) (by kernel_rfl) (by kernel_rfl) (fun _ _ _ h => no_panic h.1) (yields_of rfl (fun w' hw' => by clear hw'; go_simp)) hS_x12 ?_
          try simp only [List.getElem_toArray, List.getElem_cons_succ, List.getElem_cons_zero, Act.put, List.setIfInBounds_toArray, List.set_cons_succ, List.set_cons_zero]
          refine wpAnyH_ready (rs := [14]) (by kernel_rfl) (by simp) (AllReadyH.cons (i := 14) rfl (fun K hK => ?_) AllReadyH.nil)
          refine step_of rfl ?_
          try simp only [List.getElem_toArray, List.getElem_cons_succ, List.getElem_cons_zero, Act.put, List.setIfInBounds_toArray, List.set_cons_succ, List.set_cons_zero]
          refine wp_callC 16 #[.int .i64 5, .string (strOfNums [(n : Int)] ++ (⟨#[0, 0, 0, 0, 0, 0, 0]⟩ : ByteArray) ++ strOfNums [(q : Int)])] (by go_simp) ?_
          refine (hfr.out x12).mono ?_
          rintro _ x14 ⟨⟨fk, fp, f1, f2, rfl⟩, hb_x14⟩
          have hS_x14 := hkS _ _ hS_x12 hb_x14
          have r4_x9_x12_x14 := r4_x9_x12.below hb_x14 r4_x9_x12.lt
          have r11_x12_x14 := r11_x12.below hb_x14 r11_x12.lt
          refine ⟨_, rfl, hK.out _ _ hS_x14 (fun _ => ?_)⟩
          clear hK K
          try simp only [List.getElem_toArray, List.getElem_cons_succ, List.getElem_cons_zero, Act.put, List.setIfInBounds_toArray, List.set_cons_succ, List.set_cons_zero]
          refine wpAnyH_take (i := 15) (v := .string (str (told fk fp))) rfl (by kernel_rfl) (by kernel_rfl) (by kernel_rfl) (fun _ _ _ h => no_panic h.1) (yields_of rfl (fun w' hw' => by clear hw'; go_simp)) hS_x14 ?_
          try simp only [List.getElem_toArray, List.getElem_cons_succ, List.getElem_cons_zero, Act.put, List.setIfInBounds_toArray, List.set_cons_succ, List.set_cons_zero]
          refine wpAnyH_done (by kernel_rfl) ⟨rfl, ?_⟩ _
          go_wp2
          go_ret
          exact ⟨⟨fk, fp, f1, f2, rfl⟩, hS_x14.2.2.1⟩
    · have hS_x15 := hkS _ _ hS_w0 (below_built w0 (.cells #[.int .u8 (q : Int)] 5))
      have r11_x15 := row_built w0 (q : Int)
      refine step_of rfl (wp_val (v := .slice (some ⟨w0.heap.size, 0, none⟩) 1 1) (w' := w0.alloc (.cells #[.int .u8 (q : Int)] 5)) (by go_simp) (hK.out _ _ hS_x15 (fun _ => ?_)))
      clear hK K
      try simp only [List.getElem_toArray, List.getElem_cons_succ, List.getElem_cons_zero, Act.put, List.setIfInBounds_toArray, List.set_cons_succ, List.set_cons_zero]
      generalize w0.alloc (.cells #[.int .u8 (q : Int)] 5) = x15 at *
      refine wpAnyH_ready (rs := [4, 12]) (by kernel_rfl) (by simp) (AllReadyH.cons (i := 4) rfl (fun K hK => ?_) (AllReadyH.cons (i := 12) rfl (fun K hK => ?_) AllReadyH.nil))
      · have hS_x16 := hkS _ _ hS_x15 (below_built x15 (.cells #[.int .u8 (n : Int)] 5))
        have r4_x16 := row_built x15 (n : Int)
        have r11_x15_x16 := r11_x15.below (below_built x15 (.cells #[.int .u8 (n : Int)] 5)) r11_x15.lt
        refine step_of rfl (wp_val (v := .slice (some ⟨x15.heap.size, 0, none⟩) 1 1) (w' := x15.alloc (.cells #[.int .u8 (n : Int)] 5)) (by go_simp) (hK.out _ _ hS_x16 (fun _ => ?_)))
        clear hK K
        try simp only [List.getElem_toArray, List.getElem_cons_succ, List.getElem_cons_zero, Act.put, List.setIfInBounds_toArray, List.set_cons_succ, List.set_cons_zero]
        generalize x15.alloc (.cells #[.int .u8 (n : Int)] 5) = x16 at *
        refine wpAnyH_ready (rs := [5, 12]) (by kernel_rfl) (by simp) (AllReadyH.cons (i := 5) rfl (fun K hK => ?_) (AllReadyH.cons (i := 12) rfl (fun K hK => ?_) AllReadyH.nil))
        · have hcv := run_convR x16 (x15.heap.size) [(n : Int)] 1 1 rfl r4_x16.range
          refine step_of rfl (wp_val (v := .string (strOfNums [(n : Int)])) (w' := x16) (by go_simp) (hK.out _ _ hS_x16 (fun _ => ?_)))
          clear hK K hcv
          try simp only [List.getElem_toArray, List.getElem_cons_succ, List.getElem_cons_zero, Act.put, List.setIfInBounds_toArray, List.set_cons_succ, List.set_cons_zero]
          refine wpAnyH_take (i := 6) (v := .string (strOfNums [(n : Int)] ++ (⟨#[0, 0, 0, 0, 0, 0, 0]⟩ : ByteArray))) rfl (by kernel_rfl) (by kernel_rfl) (by kernel_rfl) (fun _ _ _ h => no_panic h.1) (yields_of rfl (fun w' hw' => by clear hw'; go_simp)) hS_x16 ?_
          try simp only [List.getElem_toArray, List.getElem_cons_succ, List.getElem_cons_zero, Act.put, List.setIfInBounds_toArray, List.set_cons_succ, List.set_cons_zero]
          refine wpAnyH_ready (rs := [12]) (by kernel_rfl) (by simp) (AllReadyH.cons (i := 12) rfl (fun K hK => ?_) AllReadyH.nil)
          have hcv := run_convR x16 (w0.heap.size) [(q : Int)] 1 1 rfl r11_x15_x16.range
          refine step_of rfl (wp_val (v := .string (strOfNums [(q : Int)])) (w' := x16) (by go_simp) (hK.out _ _ hS_x16 (fun _ => ?_)))
          clear hK K hcv
          try simp only [List.getElem_toArray, List.getElem_cons_succ, List.getElem_cons_zero, Act.put, List.setIfInBounds_toArray, List.set_cons_succ, List.set_cons_zero]
          refine wpAnyH_take (i := 13) (v := .string (strOfNums [(n : Int)] ++ (⟨#[0, 0, 0, 0, 0, 0, 0]⟩ : ByteArray) ++ strOfNums [(q : Int)])) rfl (by kernel_rfl) (by kernel_rfl) (by kernel_rfl) (fun _ _ _ h => no_panic h.1) (yields_of rfl (fun w' hw' => by clear hw'; go_simp)) hS_x16 ?_
          try simp only [List.getElem_toArray, List.getElem_cons_succ, List.getElem_cons_zero, Act.put, List.setIfInBounds_toArray, List.set_cons_succ, List.set_cons_zero]
          refine wpAnyH_ready (rs := [14]) (by kernel_rfl) (by simp) (AllReadyH.cons (i := 14) rfl (fun K hK => ?_) AllReadyH.nil)
          refine step_of rfl ?_
          try simp only [List.getElem_toArray, List.getElem_cons_succ, List.getElem_cons_zero, Act.put, List.setIfInBounds_toArray, List.set_cons_succ, List.set_cons_zero]
          refine wp_callC 16 #[.int .i64 5, .string (strOfNums [(n : Int)] ++ (⟨#[0, 0, 0, 0, 0, 0, 0]⟩ : ByteArray) ++ strOfNums [(q : Int)])] (by go_simp) ?_
          refine (hfr.out x16).mono ?_
          rintro _ x17 ⟨⟨fk, fp, f1, f2, rfl⟩, hb_x17⟩
          have hS_x17 := hkS _ _ hS_x16 hb_x17
          have r11_x15_x16_x17 := r11_x15_x16.below hb_x17 r11_x15_x16.lt
          have r4_x16_x17 := r4_x16.below hb_x17 r4_x16.lt
          refine ⟨_, rfl, hK.out _ _ hS_x17 (fun _ => ?_)⟩
          clear hK K
          try simp only [List.getElem_toArray, List.getElem_cons_succ, List.getElem_cons_zero, Act.put, List.setIfInBounds_toArray, List.set_cons_succ, List.set_cons_zero]
          refine wpAnyH_take (i := 15) (v := .string (str (told fk fp))) rfl (by kernel_rfl) (by kernel_rfl) (by kernel_rfl) (fun _ _ _ h => no_panic h.1) (yields_of rfl (fun w' hw' => by clear hw'; go_simp)) hS_x17 ?_
          try simp only [List.getElem_toArray, List.getElem_cons_succ, List.getElem_cons_zero, Act.put, List.setIfInBounds_toArray, List.set_cons_succ, List.set_cons_zero]
          refine wpAnyH_done (by kernel_rfl) ⟨rfl, ?_⟩ _
          go_wp2
          go_ret
          exact ⟨⟨fk, fp, f1, f2, rfl⟩, hS_x17.2.2.1⟩
        · have hcv := run_convR x16 (w0.heap.size) [(q : Int)] 1 1 rfl r11_x15_x16.range
          refine step_of rfl (wp_val (v := .string (strOfNums [(q : Int)])) (w' := x16) (by go_simp) (hK.out _ _ hS_x16 (fun _ => ?_)))
          clear hK K hcv
          try simp only [List.getElem_toArray, List.getElem_cons_succ, List.getElem_cons_zero, Act.put, List.setIfInBounds_toArray, List.set_cons_succ, List.set_cons_zero]
          refine wpAnyH_ready (rs := [5]) (by kernel_rfl) (by simp) (AllReadyH.cons (i := 5) rfl (fun K hK => ?_) AllReadyH.nil)
          have hcv := run_convR x16 (x15.heap.size) [(n : Int)] 1 1 rfl r4_x16.range
          refine step_of rfl (wp_val (v := .string (strOfNums [(n : Int)])) (w' := x16) (by go_simp) (hK.out _ _ hS_x16 (fun _ => ?_)))
          clear hK K hcv
          try simp only [List.getElem_toArray, List.getElem_cons_succ, List.getElem_cons_zero, Act.put, List.setIfInBounds_toArray, List.set_cons_succ, List.set_cons_zero]
          refine wpAnyH_take (i := 6) (v := .string (strOfNums [(n : Int)] ++ (⟨#[0, 0, 0, 0, 0, 0, 0]⟩ : ByteArray))) rfl (by kernel_rfl) (by kernel_rfl) (by kernel_rfl) (fun _ _ _ h => no_panic h.1) (yields_of rfl (fun w' hw' => by clear hw'; go_simp)) hS_x16 ?_
          try simp only [List.getElem_toArray, List.getElem_cons_succ, List.getElem_cons_zero, Act.put, List.setIfInBounds_toArray, List.set_cons_succ, List.set_cons_zero]
          refine wpAnyH_take (i := 13) (v := .string (strOfNums [(n : Int)] ++ (⟨#[0, 0, 0, 0, 0, 0, 0]⟩ : ByteArray) ++ strOfNums [(q : Int)])) rfl (by kernel_rfl) (by kernel_rfl) (by kernel_rfl) (fun _ _ _ h => no_panic h.1) (yields_of rfl (fun w' hw' => by clear hw'; go_simp)) hS_x16 ?_
          try simp only [List.getElem_toArray, List.getElem_cons_succ, List.getElem_cons_zero, Act.put, List.setIfInBounds_toArray, List.set_cons_succ, List.set_cons_zero]
          refine wpAnyH_ready (rs := [14]) (by kernel_rfl) (by simp) (AllReadyH.cons (i := 14) rfl (fun K hK => ?_) AllReadyH.nil)
          refine step_of rfl ?_
          try simp only [List.getElem_toArray, List.getElem_cons_succ, List.getElem_cons_zero, Act.put, List.setIfInBounds_toArray, List.set_cons_succ, List.set_cons_zero]
          refine wp_callC 16 #[.int .i64 5, .string (strOfNums [(n : Int)] ++ (⟨#[0, 0, 0, 0, 0, 0, 0]⟩ : ByteArray) ++ strOfNums [(q : Int)])] (by go_simp) ?_
          refine (hfr.out x16).mono ?_
          rintro _ x18 ⟨⟨fk, fp, f1, f2, rfl⟩, hb_x18⟩
          have hS_x18 := hkS _ _ hS_x16 hb_x18
          have r11_x15_x16_x18 := r11_x15_x16.below hb_x18 r11_x15_x16.lt
          have r4_x16_x18 := r4_x16.below hb_x18 r4_x16.lt
          refine ⟨_, rfl, hK.out _ _ hS_x18 (fun _ => ?_)⟩
          clear hK K
          try simp only [List.getElem_toArray, List.getElem_cons_succ, List.getElem_cons_zero, Act.put, List.setIfInBounds_toArray, List.set_cons_succ, List.set_cons_zero]
          refine wpAnyH_take (i := 15) (v := .string (str (told fk fp))) rfl (by kernel_rfl) (by kernel_rfl) (by kernel_rfl) (fun _ _ _ h => no_panic h.1) (yields_of rfl (fun w' hw' => by clear hw'; go_simp)) hS_x18 ?_
          try simp only [List.getElem_toArray, List.getElem_cons_succ, List.getElem_cons_zero, Act.put, List.setIfInBounds_toArray, List.set_cons_succ, List.set_cons_zero]
          refine wpAnyH_done (by kernel_rfl) ⟨rfl, ?_⟩ _
          go_wp2
          go_ret
          exact ⟨⟨fk, fp, f1, f2, rfl⟩, hS_x18.2.2.1⟩
      · have hcv := run_convR x15 (w0.heap.size) [(q : Int)] 1 1 rfl r11_x15.range
        refine step_of rfl (wp_val (v := .string (strOfNums [(q : Int)])) (w' := x15) (by go_simp) (hK.out _ _ hS_x15 (fun _ => ?_)))
        clear hK K hcv
        try simp only [List.getElem_toArray, List.getElem_cons_succ, List.getElem_cons_zero, Act.put, List.setIfInBounds_toArray, List.set_cons_succ, List.set_cons_zero]
        refine wpAnyH_ready (rs := [4]) (by kernel_rfl) (by simp) (AllReadyH.cons (i := 4) rfl (fun K hK => ?_) AllReadyH.nil)
        have hS_x19 := hkS _ _ hS_x15 (below_built x15 (.cells #[.int .u8 (n : Int)] 5))
        have r4_x19 := row_built x15 (n : Int)
        have r11_x15_x19 := r11_x15.below (below_built x15 (.cells #[.int .u8 (n : Int)] 5)) r11_x15.lt
        refine step_of rfl (wp_val (v := .slice (some ⟨x15.heap.size, 0, none⟩) 1 1) (w' := x15.alloc (.cells #[.int .u8 (n : Int)] 5)) (by go_simp) (hK.out _ _ hS_x19 (fun _ => ?_)))
        clear hK K
        try simp only [List.getElem_toArray, List.getElem_cons_succ, List.getElem_cons_zero, Act.put, List.setIfInBounds_toArray, List.set_cons_succ, List.set_cons_zero]
        generalize x15.alloc (.cells #[.int .u8 (n : Int)] 5) = x19 at *
        refine wpAnyH_ready (rs := [5]) (by kernel_rfl) (by simp) (AllReadyH.cons (i := 5) rfl (fun K hK => ?_) AllReadyH.nil)
        have hcv := run_convR x19 (x15.heap.size) [(n : Int)] 1 1 rfl r4_x19.range
        refine step_of rfl (wp_val (v := .string (strOfNums [(n : Int)])) (w' := x19) (by go_simp) (hK.out _ _ hS_x19 (fun _ => ?_)))
        clear hK K hcv
        try simp only [List.getElem_toArray, List.getElem_cons_succ, List.getElem_cons_zero, Act.put, List.setIfInBounds_toArray, List.set_cons_succ, List.set_cons_zero]
        refine wpAnyH_take (i := 6) (v := .string (strOfNums [(n : Int)] ++ (⟨#[0, 0, 0, 0, 0, 0, 0]⟩ : ByteArray))) rfl (by kernel_rfl) (by kernel_rfl) (by kernel_rfl) (fun _ _ _ h => no_panic h.1) (yields_of rfl (fun w' hw' => by clear hw'; go_simp)) hS_x19 ?_
        try simp only [List.getElem_toArray, List.getElem_cons_succ, List.getElem_cons_zero, Act.put, List.setIfInBounds_toArray, List.set_cons_succ, List.set_cons_zero]
        refine wpAnyH_take (i := 13) (v := .string (strOfNums [(n : Int)] ++ (⟨#[0, 0, 0, 0, 0, 0, 0]⟩ : ByteArray) ++ strOfNums [(q : Int)])) rfl (by kernel_rfl) (by kernel_rfl) (by kernel_rfl) (fun _ _ _ h => no_panic h.1) (yields_of rfl (fun w' hw' => by clear hw'; go_simp)) hS_x19 ?_
        try simp only [List.getElem_toArray, List.getElem_cons_succ, List.getElem_cons_zero, Act.put, List.setIfInBounds_toArray, List.set_cons_succ, List.set_cons_zero]
        refine wpAnyH_ready (rs := [14]) (by kernel_rfl) (by simp) (AllReadyH.cons (i := 14) rfl (fun K hK => ?_) AllReadyH.nil)
        refine step_of rfl ?_
        try simp only [List.getElem_toArray, List.getElem_cons_succ, List.getElem_cons_zero, Act.put, List.setIfInBounds_toArray, List.set_cons_succ, List.set_cons_zero]
        refine wp_callC 16 #[.int .i64 5, .string (strOfNums [(n : Int)] ++ (⟨#[0, 0, 0, 0, 0, 0, 0]⟩ : ByteArray) ++ strOfNums [(q : Int)])] (by go_simp) ?_
        refine (hfr.out x19).mono ?_
        rintro _ x20 ⟨⟨fk, fp, f1, f2, rfl⟩, hb_x20⟩
        have hS_x20 := hkS _ _ hS_x19 hb_x20
        have r11_x15_x19_x20 := r11_x15_x19.below hb_x20 r11_x15_x19.lt
        have r4_x19_x20 := r4_x19.below hb_x20 r4_x19.lt
        refine ⟨_, rfl, hK.out _ _ hS_x20 (fun _ => ?_)⟩
        clear hK K
        try simp only [List.getElem_toArray, List.getElem_cons_succ, List.getElem_cons_zero, Act.put, List.setIfInBounds_toArray, List.set_cons_succ, List.set_cons_zero]
        refine wpAnyH_take (i := 15) (v := .string (str (told fk fp))) rfl (by kernel_rfl) (by kernel_rfl) (by kernel_rfl) (fun _ _ _ h => no_panic h.1) (yields_of rfl (fun w' hw' => by clear hw'; go_simp)) hS_x20 ?_
        try simp only [List.getElem_toArray, List.getElem_cons_succ, List.getElem_cons_zero, Act.put, List.setIfInBounds_toArray, List.set_cons_succ, List.set_cons_zero]
        refine wpAnyH_done (by kernel_rfl) ⟨rfl, ?_⟩ _
        go_wp2
        go_ret
        exact ⟨⟨fk, fp, f1, f2, rfl⟩, hS_x20.2.2.1⟩

set_option linter.unusedSimpArgs false in
set_option maxRecDepth 100000 in
set_option maxHeartbeats 16000000 in
theorem keep_ask7 (k a b : Int) (W : World) (hI : (-9223372036854775808 ≤ k ∧ k ≤ 9223372036854775807) ∧ (-9223372036854775808 ≤ a ∧ a ≤ 9223372036854775807) ∧ (-9223372036854775808 ≤ b ∧ b ≤ 9223372036854775807)) (hv : pickN k 10 = 7) :
    Calls Tryd.prog 18 #[.agg #[.int .i64 k, .int .i64 a, .int .i64 b]] W fun r w' => IsFrame r ∧ Below W.heap.size W w' := by
  have hpk : Hid (∀ W, Calls Tryd.prog 20 #[.int .i64 k, .int .i64 10] W fun r w' => r = .returned (.int .i64 7) ∧ w' = W) := fun W => by
    have := keep_pick k 10 W hI.1.1 hI.1.2 (by omega) (by omega)
    rw [hv] at this
    exact this
  clear hv
  have tp : Hid True := trivial
  obtain ⟨pb, HPB⟩ : ∃ pb, Hid (pb = str (pinL b)) := ⟨_, rfl⟩
  have hpz : pb.size ≤ 8 := by rw [HPB.out, str_size]; exact (pinL_len b).2
  have hpin : Hid (∀ W, Calls Tryd.prog 17 #[.int .i64 b] W fun r w' => r = .returned (.string pb) ∧ Below W.heap.size W w') := fun W => by rw [HPB.out]; exact keep_pin b W hI.2.2.1 hI.2.2.2
  have hfr : Hid (∀ W, Calls Tryd.prog 16 #[.int .i64 6, .string pb] W fun r w' => IsFrame r ∧ Below W.heap.size W w') := fun W => frame_any 6 pb W (by omega) (by omega)
  have B0 : Below W.heap.size W (W.alloc (.cells #[.int .i64 k, .int .i64 a, .int .i64 b] 40)) := (Below.refl _ _).alloc (Nat.le_refl _) _
  go_enter Tryd.func18, Tryd.ntmps18
  go_wp2_with (first | (go_at_call 20; have tk := tp; clear tk tp; refine (hpk.out _).mono ?_; rintro _ wk ⟨rfl, ek⟩; rw [ek]; clear ek wk) | (go_at_call 17; refine (hpin.out _).mono ?_; rintro _ w1 ⟨rfl, hb1⟩; have B1 := B0.trans (hb1.mono B0.size)) | (go_at_call 16; refine (hfr.out _).mono ?_; rintro _ w2 ⟨⟨fk, fp, f1, f2, rfl⟩, hb2⟩; have B2 := B1.trans (hb2.mono B1.size)))
  go_ret
  exact ⟨⟨fk, fp, f1, f2, rfl⟩, B2⟩

set_option linter.unusedSimpArgs false in
set_option maxRecDepth 100000 in
set_option maxHeartbeats 16000000 in
theorem keep_ask8 (k a b : Int) (W : World) (hI : (-9223372036854775808 ≤ k ∧ k ≤ 9223372036854775807) ∧ (-9223372036854775808 ≤ a ∧ a ≤ 9223372036854775807) ∧ (-9223372036854775808 ≤ b ∧ b ≤ 9223372036854775807)) (hv : pickN k 10 = 8) :
    Calls Tryd.prog 18 #[.agg #[.int .i64 k, .int .i64 a, .int .i64 b]] W fun r w' => IsFrame r ∧ Below W.heap.size W w' := by
  have hpk : Hid (∀ W, Calls Tryd.prog 20 #[.int .i64 k, .int .i64 10] W fun r w' => r = .returned (.int .i64 8) ∧ w' = W) := fun W => by
    have := keep_pick k 10 W hI.1.1 hI.1.2 (by omega) (by omega)
    rw [hv] at this
    exact this
  clear hv
  have tp : Hid True := trivial
  have hfr : Hid (∀ W, Calls Tryd.prog 16 #[.int .i64 7, .string ⟨#[]⟩] W fun r w' => IsFrame r ∧ Below W.heap.size W w') := fun W => frame_any 7 ⟨#[]⟩ W (by omega) (by decide)
  have B0 : Below W.heap.size W (W.alloc (.cells #[.int .i64 k, .int .i64 a, .int .i64 b] 40)) := (Below.refl _ _).alloc (Nat.le_refl _) _
  go_enter Tryd.func18, Tryd.ntmps18
  go_wp2_with (first | (go_at_call 20; have tk := tp; clear tk tp; refine (hpk.out _).mono ?_; rintro _ wk ⟨rfl, ek⟩; rw [ek]; clear ek wk) | (go_at_call 16; refine (hfr.out _).mono ?_; rintro _ w2 ⟨⟨fk, fp, f1, f2, rfl⟩, hb2⟩; have B2 := B0.trans (hb2.mono B0.size)))
  go_ret
  exact ⟨⟨fk, fp, f1, f2, rfl⟩, B2⟩

set_option linter.unusedSimpArgs false in
set_option maxRecDepth 100000 in
set_option maxHeartbeats 16000000 in
theorem keep_ask9 (k a b : Int) (W : World) (hI : (-9223372036854775808 ≤ k ∧ k ≤ 9223372036854775807) ∧ (-9223372036854775808 ≤ a ∧ a ≤ 9223372036854775807) ∧ (-9223372036854775808 ≤ b ∧ b ≤ 9223372036854775807)) (hv : pickN k 10 = 9) :
    Calls Tryd.prog 18 #[.agg #[.int .i64 k, .int .i64 a, .int .i64 b]] W fun r w' => IsFrame r ∧ Below W.heap.size W w' := by
  have hpk : Hid (∀ W, Calls Tryd.prog 20 #[.int .i64 k, .int .i64 10] W fun r w' => r = .returned (.int .i64 9) ∧ w' = W) := fun W => by
    have := keep_pick k 10 W hI.1.1 hI.1.2 (by omega) (by omega)
    rw [hv] at this
    exact this
  clear hv
  have tp : Hid True := trivial
  obtain ⟨n, HN⟩ : ∃ n, Hid (n = pickN a 256) := ⟨_, rfl⟩
  have hn4 : n < 256 := by rw [HN.out]; exact pickN_lt _ (by omega)
  have hp2 : Hid (∀ W, Calls Tryd.prog 20 #[.int .i64 a, .int .i64 256] W fun r w' => r = .returned (.int .i64 n) ∧ w' = W) := fun W => by rw [HN.out]; exact keep_pick _ 256 W hI.2.1.1 hI.2.1.2 (by omega) (by omega)
  obtain ⟨kb, HKB⟩ : ∃ kb, Hid (kb = str (keyL6 b)) := ⟨_, rfl⟩
  have hkz : kb.size ≤ 20 := by rw [HKB.out, str_size]; exact (keyL6_len b).2
  have hkey : Hid (∀ W, Calls Tryd.prog 11 #[.int .i64 b] W fun r w' => r = .returned (.string kb) ∧ Below W.heap.size W w') := fun W => by rw [HKB.out]; exact keep_key b W hI.2.2.1 hI.2.2.2
  have hn8 : (n : Int) % 256 = n := by omega
  have hw8 : ∀ x : Int, IntKind.u8.wrap x = x % 256 := u8_wrap
  have hz1 := size1
  have hz2 : 1 + kb.size ≤ 9223372036854775807 := by omega
  have hfr : Hid (∀ W, Calls Tryd.prog 16 #[.int .i64 n, .string kb] W fun r w' => IsFrame r ∧ Below W.heap.size W w') := fun W => frame_any n kb W (by omega) (by omega)
  have r0 : Row (W.alloc (.cells #[.int .i64 k, .int .i64 a, .int .i64 b] 40)).drew W.heap.size [.int .i64 k, .int .i64 a, .int .i64 b] 40 := (Row.made _ _ _).drew
  have hkS : ∀ X X' : World, (X.cell? ⟨W.heap.size, 1, none⟩ = some (.int .i64 a) ∧ X.cell? ⟨W.heap.size, 2, none⟩ = some (.int .i64 b) ∧ Below W.heap.size W X ∧ W.heap.size < X.heap.size) → Below X.heap.size X X' → (X'.cell? ⟨W.heap.size, 1, none⟩ = some (.int .i64 a) ∧ X'.cell? ⟨W.heap.size, 2, none⟩ = some (.int .i64 b) ∧ Below W.heap.size W X' ∧ W.heap.size < X'.heap.size) := fun X X' h hb => ⟨(hb.cell (p := ⟨W.heap.size, 1, none⟩) h.2.2.2).trans h.1, (hb.cell (p := ⟨W.heap.size, 2, none⟩) h.2.2.2).trans h.2.1, h.2.2.1.trans (hb.mono h.2.2.1.size), Nat.lt_of_lt_of_le h.2.2.2 hb.size⟩
  have hS0 : (fun X : World => X.cell? ⟨W.heap.size, 1, none⟩ = some (.int .i64 a) ∧ X.cell? ⟨W.heap.size, 2, none⟩ = some (.int .i64 b) ∧ Below W.heap.size W X ∧ W.heap.size < X.heap.size) (W.alloc (.cells #[.int .i64 k, .int .i64 a, .int .i64 b] 40)).drew := ⟨r0.cell.trans rfl, r0.cell.trans rfl, ((Below.refl _ _).alloc (Nat.le_refl _) _).drew, r0.lt⟩
  go_enter Tryd.func18, Tryd.ntmps18
  go_wp2_with (go_at_call 20; have tk := tp; clear tk tp; refine (hpk.out _).mono ?_; rintro _ wk ⟨rfl, ek⟩; rw [ek]; clear ek wk)
  refine wp_normalK ?_
  refine wp_region_letter (S := fun X => X.cell? ⟨W.heap.size, 1, none⟩ = some (.int .i64 a) ∧ X.cell? ⟨W.heap.size, 2, none⟩ = some (.int .i64 b) ∧ Below W.heap.size W X ∧ W.heap.size < X.heap.size) (by kernel_rfl) hS0 ?_
  intro w0 hS_w0
  refine wpAnyH_take (i := 0) (v := .pointer (some ⟨W.heap.size, 1, none⟩)) rfl (by kernel_rfl) (by kernel_rfl) (by kernel_rfl) (fun _ _ _ h => no_panic h.1) (yields_of rfl (fun w' hw' => by clear hw'; go_simp)) hS_w0 ?_
  try simp only [List.getElem_toArray, List.getElem_cons_succ, List.getElem_cons_zero, Act.put, List.setIfInBounds_toArray, List.set_cons_succ, List.set_cons_zero]
  refine wpAnyH_take (i := 1) (v := .int .i64 a) rfl (by kernel_rfl) (by kernel_rfl) (by kernel_rfl) (fun _ _ _ h => no_panic h.1) (yields_of rfl (fun w' hw' => by obtain ⟨y1, y2, -, -⟩ := hw'; go_simp)) hS_w0 ?_
  try simp only [List.getElem_toArray, List.getElem_cons_succ, List.getElem_cons_zero, Act.put, List.setIfInBounds_toArray, List.set_cons_succ, List.set_cons_zero]
  refine wpAnyH_take (i := 3) (v := .pointer (some ⟨W.heap.size, 2, none⟩)) rfl (by kernel_rfl) (by kernel_rfl) (by kernel_rfl) (fun _ _ _ h => no_panic h.1) (yields_of rfl (fun w' hw' => by clear hw'; go_simp)) hS_w0 ?_
  try simp only [List.getElem_toArray, List.getElem_cons_succ, List.getElem_cons_zero, Act.put, List.setIfInBounds_toArray, List.set_cons_succ, List.set_cons_zero]
  refine wpAnyH_take (i := 4) (v := .int .i64 b) rfl (by kernel_rfl) (by kernel_rfl) (by kernel_rfl) (fun _ _ _ h => no_panic h.1) (yields_of rfl (fun w' hw' => by obtain ⟨y1, y2, -, -⟩ := hw'; go_simp)) hS_w0 ?_
  try simp only [List.getElem_toArray, List.getElem_cons_succ, List.getElem_cons_zero, Act.put, List.setIfInBounds_toArray, List.set_cons_succ, List.set_cons_zero]
  refine wpAnyH_ready (rs := [2]) (by kernel_rfl) (by simp) (AllReadyH.cons (i := 2) rfl (fun K hK => ?_) AllReadyH.nil)
  refine step_of rfl ?_
  try simp only [List.getElem_toArray, List.getElem_cons_succ, List.getElem_cons_zero, Act.put, List.setIfInBounds_toArray, List.set_cons_succ, List.set_cons_zero]
  refine wp_callC 20 #[.int .i64 a, .int .i64 256] (by go_simp) ?_
  refine (hp2.out w0).mono ?_
  rintro _ w9 ⟨rfl, e9⟩
  rw [e9]
  clear e9 w9
  refine ⟨_, rfl, hK.out _ _ hS_w0 (fun _ => ?_)⟩
  clear hK K
  try simp only [List.getElem_toArray, List.getElem_cons_succ, List.getElem_cons_zero, Act.put, List.setIfInBounds_toArray, List.set_cons_succ, List.set_cons_zero]
  refine wpAnyH_ready (rs := [5]) (by kernel_rfl) (by simp) (AllReadyH.cons (i := 5) rfl (fun K hK => ?_) AllReadyH.nil)
  refine step_of rfl ?_
  try simp only [List.getElem_toArray, List.getElem_cons_succ, List.getElem_cons_zero, Act.put, List.setIfInBounds_toArray, List.set_cons_succ, List.set_cons_zero]
  refine wp_callC 11 #[.int .i64 b] (by go_simp) ?_
  refine (hkey.out w0).mono ?_
  rintro _ x1 ⟨rfl, hb_x1⟩
  have hS_x1 := hkS _ _ hS_w0 hb_x1
  refine ⟨_, rfl, hK.out _ _ hS_x1 (fun _ => ?_)⟩
  clear hK K
  try simp only [List.getElem_toArray, List.getElem_cons_succ, List.getElem_cons_zero, Act.put, List.setIfInBounds_toArray, List.set_cons_succ, List.set_cons_zero]
  refine wpAnyH_ready (rs := [6]) (by kernel_rfl) (by simp) (AllReadyH.cons (i := 6) rfl (fun K hK => ?_) AllReadyH.nil)
  refine step_of rfl ?_
  try simp only [List.getElem_toArray, List.getElem_cons_succ, List.getElem_cons_zero, Act.put, List.setIfInBounds_toArray, List.set_cons_succ, List.set_cons_zero]
  refine wp_callC 16 #[.int .i64 n, .string kb] (by go_simp) ?_
  refine (hfr.out x1).mono ?_
  rintro _ x2 ⟨⟨fk, fp, f1, f2, rfl⟩, hb_x2⟩
  have hS_x2 := hkS _ _ hS_x1 hb_x2
  refine ⟨_, rfl, hK.out _ _ hS_x2 (fun _ => ?_)⟩
  clear hK K
  try simp only [List.getElem_toArray, List.getElem_cons_succ, List.getElem_cons_zero, Act.put, List.setIfInBounds_toArray, List.set_cons_succ, List.set_cons_zero]
  refine wpAnyH_take (i := 7) (v := .string (str (told fk fp))) rfl (by kernel_rfl) (by kernel_rfl) (by kernel_rfl) (fun _ _ _ h => no_panic h.1) (yields_of rfl (fun w' hw' => by clear hw'; go_simp)) hS_x2 ?_
  try simp only [List.getElem_toArray, List.getElem_cons_succ, List.getElem_cons_zero, Act.put, List.setIfInBounds_toArray, List.set_cons_succ, List.set_cons_zero]
  refine wpAnyH_done (by kernel_rfl) ⟨rfl, ?_⟩ _
  go_wp2
  go_ret
  exact ⟨⟨fk, fp, f1, f2, rfl⟩, hS_x2.2.2.1⟩

theorem keep_ask (k a b : Int) (W : World) (hI : (-9223372036854775808 ≤ k ∧ k ≤ 9223372036854775807) ∧ (-9223372036854775808 ≤ a ∧ a ≤ 9223372036854775807) ∧ (-9223372036854775808 ≤ b ∧ b ≤ 9223372036854775807)) :
    Calls Tryd.prog 18 #[.agg #[.int .i64 k, .int .i64 a, .int .i64 b]] W fun r w' => IsFrame r ∧ Below W.heap.size W w' := by
  have h := pickN_lt k (n := 10) (by omega)
  rcases (by omega : pickN k 10 = 0 ∨ pickN k 10 = 1 ∨ pickN k 10 = 2 ∨ pickN k 10 = 3 ∨ pickN k 10 = 4 ∨ pickN k 10 = 5 ∨ pickN k 10 = 6 ∨ pickN k 10 = 7 ∨ pickN k 10 = 8 ∨ pickN k 10 = 9) with h | h | h | h | h | h | h | h | h | h
  · exact keep_ask0 k a b W hI h
  · exact keep_ask1 k a b W hI h
  · exact keep_ask2 k a b W hI h
  · exact keep_ask3 k a b W hI h
  · exact keep_ask4 k a b W hI h
  · exact keep_ask5 k a b W hI h
  · exact keep_ask6 k a b W hI h
  · exact keep_ask7 k a b W hI h
  · exact keep_ask8 k a b W hI h
  · exact keep_ask9 k a b W hI h
end Go.Proofs.YtaokemapkgggoaaDoor
