import Derived.Test.YtaokemapkgggoaaGreatDoorAl41
set_option linter.unusedSimpArgs false
namespace Go.Proofs.YtaokemapkgggoaaGreatDoor
open Go.RowKit

/-- what the choice of a device leans on -/
abbrev Chosen (g vb ob cap len k x y : Nat) (wn : Int) (cs : List Value) (W : World) : Prop :=
  W.cell? ⟨g, 1, none⟩ = some (.slice (some ⟨vb, 0, none⟩) len cap) ∧ W.cell? ⟨ob, 1, none⟩ = some (.int .i64 wn) ∧ W.cell? ⟨vb, k * 2, none⟩ = some (.pointer (some ⟨x, 0, none⟩)) ∧ W.cell? ⟨vb, k * 2 + 1, none⟩ = some (.pointer (some ⟨y, 0, none⟩)) ∧ W.rangeAt ob 0 cs
theorem yields_load {P : Program} {ops : Array Oper} {S : World → Prop} {op : Oper} {a : Act} (hgd : op.guard = none) (ty : TypeId) (x : Operand) (ho : op.op = .load ty x)
    (b o : Nat) (hx : a.eval x = .pointer (some ⟨b, o, none⟩)) (cs : List Value) (d : TypeDesc) (hS : ∀ w, S w → w.rangeAt b o cs)
    (hu : P.underlying ty = some d) (hd : d.isRow = true) (hi : (P.info? ty).map (·.size) = some cs.length) : YieldsIf P ops S op (.agg cs.toArray) a :=
  yieldsIf_load_mid (by simp [Region.wanted, hgd]) ty x ho b o hx cs d hS hu hd hi
theorem range_two {x y b : Nat} {w w' : World} {cs : List Value} {o : Nat} (h : w.rangeAt b o cs) (ht : Two x y w w') (hb : b < w.heap.size) (hx : b ≠ x) (hy : b ≠ y) : w'.rangeAt b o cs := by
  intro j v hv
  rw [World.cell?_of_block (a := ⟨b, o + j, none⟩) (ht.block b hb hx hy)]
  exact h j v hv
theorem cell_two {x y b : Nat} {w w' : World} {o : Nat} {v : Value} (h : w.cell? ⟨b, o, none⟩ = some v) (ht : Two x y w w') (hb : b < w.heap.size) (hx : b ≠ x) (hy : b ≠ y) : w'.cell? ⟨b, o, none⟩ = some v := by
  rw [World.cell?_of_block (a := ⟨b, o, none⟩) (ht.block b hb hx hy)]
  exact h

set_option maxRecDepth 100000 in
set_option maxHeartbeats 1000000 in
theorem law_fstep5 (hsum : SumSaid sumSpecRef) (w1 w : World) (g gs : Nat) (ps : List (Nat × Nat × Dv)) (wn n : Int) (s t : ByteArray) (rest : List Value) (hrl : rest.length = 15) (G : Ground w1 gs) (F : FedAt w1 g gs ps w) (hne : 0 < ps.length) (hl : ps.length < 1000) (hs : s.size ≤ 1500000)
    (hn0 : -9223372036854775808 ≤ n) (hn1 : n ≤ 9223372036854775807) (hm0 : -9223372036854775808 ≤ wn) (hm1 : wn ≤ 9223372036854775807) :
    Calls Tryz.prog 10 #[.pointer (some ⟨g, 0, none⟩), .agg (opCells 5 wn n s t rest).toArray] w fun r w' => r = .returned (.bool true) ∧ ∃ qs, FedAt w1 g gs qs w' ∧ qs.length = ps.length := by
  obtain ⟨cs, HC⟩ : ∃ cs, Hid (cs = opCells 5 wn n s t rest) := ⟨_, rfl⟩
  have hcl : cs.length = 20 := by rw [HC.out]; simp [opCells, hrl]
  rw [← HC.out]
  obtain ⟨k, HK⟩ : ∃ k, Hid (k = pickN wn ps.length) := ⟨_, rfl⟩
  have hkl : k < ps.length := by rw [HK.out]; exact pickN_lt wn hne
  obtain ⟨vb, cap, x, y, d, pre, post, hps, hrow, ⟨vcs, hvr⟩, hcx, hcy⟩ := F.pick k hkl
  have HPS : Hid (ps = pre ++ (x, y, d) :: post) := hps
  obtain ⟨D0, hx, hy⟩ := F.dev (x, y, d) (by rw [hps]; simp)
  clear hps
  obtain ⟨fs, hu⟩ := underOp
  have HSZ : Hid ((Tryz.prog.info? 36).map (·.size) = some cs.length) := by show _ = _; rw [sizeOp, hcl]
  have HU : Hid (Tryz.prog.underlying 36 = some (.struct fs)) := hu
  clear hu
  obtain ⟨len, HLN⟩ : ∃ len, Hid (len = ps.length) := ⟨_, rfl⟩
  rw [← HLN.out] at hne hl hkl HK hrow ⊢
  have hkl' : (k : Int) < len := by omega
  have hk0 : (0 : Int) ≤ k := by omega
  have hpk : ∀ W, Calls Tryz.prog 27 #[.int .i64 wn, .int .i64 len] W fun r w' => r = .returned (.int .i64 k) ∧ w' = W := fun W => by rw [HK.out]; exact law_pick wn len W hm0 hm1 hne (by omega)
  have hstart : ∀ wb, Row wb w.heap.size cs 36 → Below w.heap.size w wb → Chosen g vb w.heap.size cap len k x y wn cs wb ∧ wb.cell? ⟨w.heap.size, 0, none⟩ = some (.int .i64 5) := by
    intro wb h1 h2
    have c1 : w.cell? ⟨g, 1, none⟩ = some (.slice (some ⟨vb, 0, none⟩) len cap) := hrow.cell.trans rfl
    refine ⟨⟨(h2.cell (p := ⟨g, 1, none⟩) hrow.lt).trans c1, ?_, (h2.cell (p := ⟨vb, k * 2, none⟩) hvr.lt).trans hcx, (h2.cell (p := ⟨vb, k * 2 + 1, none⟩) hvr.lt).trans hcy, h1.range⟩, ?_⟩
    · rw [HC.out] at h1; exact h1.cell.trans rfl
    · rw [HC.out] at h1; exact h1.cell.trans rfl
  have hask : ∀ wb, Below w.heap.size w wb → Calls Tryz.prog 11 #[.agg #[.pointer (some ⟨x, 0, none⟩), .pointer (some ⟨y, 0, none⟩)], .agg cs.toArray] wb (Asked gs x y wb) := by
    intro wb h2
    rw [HC.out]
    exact law_asks hsum w1 wb gs x y d 5 wn n s t rest G (F.base.trans (h2.mono F.base.size)) (D0.below h2) hx hy hs hn0 hn1 (by omega)
  have hafter : ∀ wb wc, Row wb w.heap.size cs 36 → Below w.heap.size w wb → Two x y wb wc → Chosen g vb w.heap.size cap len k x y wn cs wc := by
    intro wb wc h1 h2 h3
    obtain ⟨q1, q2, q3, q4, q5⟩ := (hstart wb h1 h2).1
    have Db := D0.below h2
    have hgr := hrow.below h2 hrow.lt
    have hvb := hvr.below h2 hvr.lt
    exact ⟨cell_two q1 h3 hgr.lt (Row.neP hgr Db.pd (by decide)) (Row.ne hgr Db.dv (by decide)), cell_two q2 h3 h1.lt (Row.neP h1 Db.pd (by decide)) (Row.ne h1 Db.dv (by decide)), cell_two q3 h3 hvb.lt (Row.neP hvb Db.pd (by decide)) (Row.ne hvb Db.dv (by decide)), cell_two q4 h3 hvb.lt (Row.neP hvb Db.pd (by decide)) (Row.ne hvb Db.dv (by decide)), range_two q5 h3 h1.lt (Row.neP h1 Db.pd (by decide)) (Row.ne h1 Db.dv (by decide))⟩
  clear hrow hcx hcy hvr
  go_enter Tryz.func10, Tryz.ntmps10
  go_wp2_with (first | (refine wpList_boxM rfl 36 _ rfl cs rfl ?_; intro wb hr hb; have ⟨hQ0, a0⟩ := hstart wb hr hb; clear hQ0; go_simp))
  have hS0 := (hstart wb.drew hr.drew hb.drew).1
  refine Code.wp_mono (Q := fun e_ a_ w_ => e_ = .normal ∧ a_ = Act.mk (List.toArray ((.pointer (some ⟨g, 0, none⟩)) :: (.agg cs.toArray) :: undef :: (.pointer (some ⟨w.heap.size, 0, none⟩)) :: (.bool true) :: (.pointer (some ⟨w.heap.size, 0, none⟩)) :: (.int .i64 5) :: (.bool false) :: (.bool false) :: (.bool false) :: (.bool false) :: undef :: undef :: undef :: (.bool false) :: (.bool false) :: (.bool false) :: undef :: undef :: undef :: (.bool true) :: (.bool true) :: undef :: undef :: undef :: undef :: (.pointer (some ⟨g, 0, none⟩)) :: (.pointer (some ⟨g, 0, none⟩)) :: (.pointer (some ⟨g, 1, none⟩)) :: (.slice (some ⟨vb, 0, none⟩) len cap) :: (.pointer (some ⟨w.heap.size, 1, none⟩)) :: (.int .i64 wn) :: (.pointer (some ⟨g, 0, none⟩)) :: (.pointer (some ⟨g, 0, none⟩)) :: (.pointer (some ⟨g, 1, none⟩)) :: (.slice (some ⟨vb, 0, none⟩) len cap) :: (.int .i64 len) :: (.int .i64 k) :: (.pointer (some ⟨vb, k * 2, none⟩)) :: (.agg #[.pointer (some ⟨x, 0, none⟩), .pointer (some ⟨y, 0, none⟩)]) :: (.agg cs.toArray) :: (.bool true) :: [])) [] ∧ ∃ d', DevAt w_ gs x y d' ∧ Two x y wb.drew w_) ?_ ?_
  case refine_2 =>
    refine wp_region_held (S := Chosen g vb w.heap.size cap len k x y wn cs) (by kernel_rfl) ?_
    refine wpAnyH_take (i := 0) (v := .pointer (some ⟨g, 0, none⟩)) rfl (by kernel_rfl) (by kernel_rfl) (by kernel_rfl) (fun _ _ _ h => no_panic h.1) (yields_of rfl (fun w' hw' => by go_split_ands; go_simp)) hS0 ?_
    try simp only [List.getElem_toArray, List.getElem_cons_succ, List.getElem_cons_zero, Act.put, List.setIfInBounds_toArray, List.set_cons_succ, List.set_cons_zero]
    refine wpAnyH_take (i := 1) (v := .pointer (some ⟨g, 0, none⟩)) rfl (by kernel_rfl) (by kernel_rfl) (by kernel_rfl) (fun _ _ _ h => no_panic h.1) (yields_of rfl (fun w' hw' => by go_split_ands; go_simp)) hS0 ?_
    try simp only [List.getElem_toArray, List.getElem_cons_succ, List.getElem_cons_zero, Act.put, List.setIfInBounds_toArray, List.set_cons_succ, List.set_cons_zero]
    refine wpAnyH_take (i := 2) (v := .pointer (some ⟨g, 1, none⟩)) rfl (by kernel_rfl) (by kernel_rfl) (by kernel_rfl) (fun _ _ _ h => no_panic h.1) (yields_of rfl (fun w' hw' => by go_split_ands; go_simp)) hS0 ?_
    try simp only [List.getElem_toArray, List.getElem_cons_succ, List.getElem_cons_zero, Act.put, List.setIfInBounds_toArray, List.set_cons_succ, List.set_cons_zero]
    refine wpAnyH_take (i := 3) (v := .slice (some ⟨vb, 0, none⟩) len cap) rfl (by kernel_rfl) (by kernel_rfl) (by kernel_rfl) (fun _ _ _ h => no_panic h.1) (yields_of rfl (fun w' hw' => by go_split_ands; go_simp)) hS0 ?_
    try simp only [List.getElem_toArray, List.getElem_cons_succ, List.getElem_cons_zero, Act.put, List.setIfInBounds_toArray, List.set_cons_succ, List.set_cons_zero]
    refine wpAnyH_take (i := 4) (v := .pointer (some ⟨w.heap.size, 1, none⟩)) rfl (by kernel_rfl) (by kernel_rfl) (by kernel_rfl) (fun _ _ _ h => no_panic h.1) (yields_of rfl (fun w' hw' => by go_split_ands; go_simp)) hS0 ?_
    try simp only [List.getElem_toArray, List.getElem_cons_succ, List.getElem_cons_zero, Act.put, List.setIfInBounds_toArray, List.set_cons_succ, List.set_cons_zero]
    refine wpAnyH_take (i := 5) (v := .int .i64 wn) rfl (by kernel_rfl) (by kernel_rfl) (by kernel_rfl) (fun _ _ _ h => no_panic h.1) (yields_of rfl (fun w' hw' => by go_split_ands; go_simp)) hS0 ?_
    try simp only [List.getElem_toArray, List.getElem_cons_succ, List.getElem_cons_zero, Act.put, List.setIfInBounds_toArray, List.set_cons_succ, List.set_cons_zero]
    refine wpAnyH_take (i := 6) (v := .pointer (some ⟨g, 0, none⟩)) rfl (by kernel_rfl) (by kernel_rfl) (by kernel_rfl) (fun _ _ _ h => no_panic h.1) (yields_of rfl (fun w' hw' => by go_split_ands; go_simp)) hS0 ?_
    try simp only [List.getElem_toArray, List.getElem_cons_succ, List.getElem_cons_zero, Act.put, List.setIfInBounds_toArray, List.set_cons_succ, List.set_cons_zero]
    refine wpAnyH_take (i := 7) (v := .pointer (some ⟨g, 0, none⟩)) rfl (by kernel_rfl) (by kernel_rfl) (by kernel_rfl) (fun _ _ _ h => no_panic h.1) (yields_of rfl (fun w' hw' => by go_split_ands; go_simp)) hS0 ?_
    try simp only [List.getElem_toArray, List.getElem_cons_succ, List.getElem_cons_zero, Act.put, List.setIfInBounds_toArray, List.set_cons_succ, List.set_cons_zero]
    refine wpAnyH_take (i := 8) (v := .pointer (some ⟨g, 1, none⟩)) rfl (by kernel_rfl) (by kernel_rfl) (by kernel_rfl) (fun _ _ _ h => no_panic h.1) (yields_of rfl (fun w' hw' => by go_split_ands; go_simp)) hS0 ?_
    try simp only [List.getElem_toArray, List.getElem_cons_succ, List.getElem_cons_zero, Act.put, List.setIfInBounds_toArray, List.set_cons_succ, List.set_cons_zero]
    refine wpAnyH_take (i := 9) (v := .slice (some ⟨vb, 0, none⟩) len cap) rfl (by kernel_rfl) (by kernel_rfl) (by kernel_rfl) (fun _ _ _ h => no_panic h.1) (yields_of rfl (fun w' hw' => by go_split_ands; go_simp)) hS0 ?_
    try simp only [List.getElem_toArray, List.getElem_cons_succ, List.getElem_cons_zero, Act.put, List.setIfInBounds_toArray, List.set_cons_succ, List.set_cons_zero]
    refine wpAnyH_take (i := 10) (v := .int .i64 len) rfl (by kernel_rfl) (by kernel_rfl) (by kernel_rfl) (fun _ _ _ h => no_panic h.1) (yields_of rfl (fun w' hw' => by go_split_ands; go_simp)) hS0 ?_
    try simp only [List.getElem_toArray, List.getElem_cons_succ, List.getElem_cons_zero, Act.put, List.setIfInBounds_toArray, List.set_cons_succ, List.set_cons_zero]
    refine wpAnyH_take (i := 14) (v := .agg cs.toArray) rfl (by kernel_rfl) (by kernel_rfl) (by kernel_rfl) (fun _ _ _ h => no_panic h.1) (yields_load rfl 36 _ rfl w.heap.size 0 rfl cs _ (fun _ h => h.2.2.2.2) HU.out rfl HSZ.out) hS0 ?_
    try simp only [List.getElem_toArray, List.getElem_cons_succ, List.getElem_cons_zero, Act.put, List.setIfInBounds_toArray, List.set_cons_succ, List.set_cons_zero]
    refine wpAnyH_ready (rs := [11]) (by kernel_rfl) (by simp) (AllReadyH.cons (i := 11) rfl (fun K hK => ?_) AllReadyH.nil)
    refine step_of rfl ?_
    simp only [List.getElem_toArray, List.getElem_cons_succ, List.getElem_cons_zero, Act.put, List.setIfInBounds_toArray, List.set_cons_succ, List.set_cons_zero]
    refine wp_callC 27 #[.int .i64 wn, .int .i64 len] (by go_simp) ?_
    refine (hpk _).mono ?_
    rintro _ wy ⟨rfl, hwy⟩
    rw [hwy]
    refine ⟨_, rfl, hK.out _ _ hS0 (fun _ => ?_)⟩
    clear hK K hwy wy
    simp only [List.getElem_toArray, List.getElem_cons_succ, List.getElem_cons_zero, Act.put, List.setIfInBounds_toArray, List.set_cons_succ, List.set_cons_zero]
    refine wpAnyH_take (i := 12) (v := .pointer (some ⟨vb, k * 2, none⟩)) rfl (by kernel_rfl) (by kernel_rfl) (by kernel_rfl) (fun _ _ _ h => no_panic h.1) (yields_of rfl (fun w' hw' => by go_split_ands; go_simp)) hS0 ?_
    try simp only [List.getElem_toArray, List.getElem_cons_succ, List.getElem_cons_zero, Act.put, List.setIfInBounds_toArray, List.set_cons_succ, List.set_cons_zero]
    refine wpAnyH_take (i := 13) (v := .agg #[.pointer (some ⟨x, 0, none⟩), .pointer (some ⟨y, 0, none⟩)]) rfl (by kernel_rfl) (by kernel_rfl) (by kernel_rfl) (fun _ _ _ h => no_panic h.1) (yields_of rfl (fun w' hw' => by go_split_ands; go_simp)) hS0 ?_
    try simp only [List.getElem_toArray, List.getElem_cons_succ, List.getElem_cons_zero, Act.put, List.setIfInBounds_toArray, List.set_cons_succ, List.set_cons_zero]
    refine wpAnyH_ready (rs := [15]) (by kernel_rfl) (by simp) (AllReadyH.cons (i := 15) rfl (fun K hK => ?_) AllReadyH.nil)
    refine step_of rfl ?_
    simp only [List.getElem_toArray, List.getElem_cons_succ, List.getElem_cons_zero, Act.put, List.setIfInBounds_toArray, List.set_cons_succ, List.set_cons_zero]
    refine wp_callC 11 #[.agg #[.pointer (some ⟨x, 0, none⟩), .pointer (some ⟨y, 0, none⟩)], .agg cs.toArray] (by go_simp) ?_
    refine (hask wb.drew hb.drew).mono ?_
    rintro _ w3 ⟨rfl, d', D3, t3⟩
    have hS3 := hafter wb.drew w3 hr.drew hb.drew t3
    refine ⟨_, rfl, hK.out _ _ hS3 (fun _ => ?_)⟩
    clear hK K
    simp only [List.getElem_toArray, List.getElem_cons_succ, List.getElem_cons_zero, Act.put, List.setIfInBounds_toArray, List.set_cons_succ, List.set_cons_zero]
    refine wpAnyH_take (i := 16) (v := .bool true) rfl (by kernel_rfl) (by kernel_rfl) (by kernel_rfl) (fun _ _ _ h => no_panic h.1) (yields_of rfl (fun w' hw' => by go_split_ands; go_simp)) hS3 ?_
    try simp only [List.getElem_toArray, List.getElem_cons_succ, List.getElem_cons_zero, Act.put, List.setIfInBounds_toArray, List.set_cons_succ, List.set_cons_zero]
    exact wpAnyH_done (by kernel_rfl) ⟨rfl, rfl, d', D3, t3⟩ _
  rintro _ _ w3 ⟨rfl, rfl, d', D3, t3⟩
  go_wp2
  go_ret
  refine ⟨rfl, pre ++ (x, y, d') :: post, ?_, by rw [HLN.out, HPS.out]; simp⟩
  have F' := F.below hb.drew
  rw [HPS.out] at F'
  exact F'.asked t3 D3

set_option maxRecDepth 100000 in
set_option maxHeartbeats 1000000 in
theorem law_fstep6 (hsum : SumSaid sumSpecRef) (w1 w : World) (g gs : Nat) (ps : List (Nat × Nat × Dv)) (wn n : Int) (s t : ByteArray) (rest : List Value) (hrl : rest.length = 15) (G : Ground w1 gs) (F : FedAt w1 g gs ps w) (hne : 0 < ps.length) (hl : ps.length < 1000) (hs : s.size ≤ 1500000)
    (hn0 : -9223372036854775808 ≤ n) (hn1 : n ≤ 9223372036854775807) (hm0 : -9223372036854775808 ≤ wn) (hm1 : wn ≤ 9223372036854775807) :
    Calls Tryz.prog 10 #[.pointer (some ⟨g, 0, none⟩), .agg (opCells 6 wn n s t rest).toArray] w fun r w' => r = .returned (.bool true) ∧ ∃ qs, FedAt w1 g gs qs w' ∧ qs.length = ps.length := by
  obtain ⟨cs, HC⟩ : ∃ cs, Hid (cs = opCells 6 wn n s t rest) := ⟨_, rfl⟩
  have hcl : cs.length = 20 := by rw [HC.out]; simp [opCells, hrl]
  rw [← HC.out]
  obtain ⟨k, HK⟩ : ∃ k, Hid (k = pickN wn ps.length) := ⟨_, rfl⟩
  have hkl : k < ps.length := by rw [HK.out]; exact pickN_lt wn hne
  obtain ⟨vb, cap, x, y, d, pre, post, hps, hrow, ⟨vcs, hvr⟩, hcx, hcy⟩ := F.pick k hkl
  have HPS : Hid (ps = pre ++ (x, y, d) :: post) := hps
  obtain ⟨D0, hx, hy⟩ := F.dev (x, y, d) (by rw [hps]; simp)
  clear hps
  obtain ⟨fs, hu⟩ := underOp
  have HSZ : Hid ((Tryz.prog.info? 36).map (·.size) = some cs.length) := by show _ = _; rw [sizeOp, hcl]
  have HU : Hid (Tryz.prog.underlying 36 = some (.struct fs)) := hu
  clear hu
  obtain ⟨len, HLN⟩ : ∃ len, Hid (len = ps.length) := ⟨_, rfl⟩
  rw [← HLN.out] at hne hl hkl HK hrow ⊢
  have hkl' : (k : Int) < len := by omega
  have hk0 : (0 : Int) ≤ k := by omega
  have hpk : ∀ W, Calls Tryz.prog 27 #[.int .i64 wn, .int .i64 len] W fun r w' => r = .returned (.int .i64 k) ∧ w' = W := fun W => by rw [HK.out]; exact law_pick wn len W hm0 hm1 hne (by omega)
  have hstart : ∀ wb, Row wb w.heap.size cs 36 → Below w.heap.size w wb → Chosen g vb w.heap.size cap len k x y wn cs wb ∧ wb.cell? ⟨w.heap.size, 0, none⟩ = some (.int .i64 6) := by
    intro wb h1 h2
    have c1 : w.cell? ⟨g, 1, none⟩ = some (.slice (some ⟨vb, 0, none⟩) len cap) := hrow.cell.trans rfl
    refine ⟨⟨(h2.cell (p := ⟨g, 1, none⟩) hrow.lt).trans c1, ?_, (h2.cell (p := ⟨vb, k * 2, none⟩) hvr.lt).trans hcx, (h2.cell (p := ⟨vb, k * 2 + 1, none⟩) hvr.lt).trans hcy, h1.range⟩, ?_⟩
    · rw [HC.out] at h1; exact h1.cell.trans rfl
    · rw [HC.out] at h1; exact h1.cell.trans rfl
  have hask : ∀ wb, Below w.heap.size w wb → Calls Tryz.prog 11 #[.agg #[.pointer (some ⟨x, 0, none⟩), .pointer (some ⟨y, 0, none⟩)], .agg cs.toArray] wb (Asked gs x y wb) := by
    intro wb h2
    rw [HC.out]
    exact law_asks hsum w1 wb gs x y d 6 wn n s t rest G (F.base.trans (h2.mono F.base.size)) (D0.below h2) hx hy hs hn0 hn1 (by omega)
  have hafter : ∀ wb wc, Row wb w.heap.size cs 36 → Below w.heap.size w wb → Two x y wb wc → Chosen g vb w.heap.size cap len k x y wn cs wc := by
    intro wb wc h1 h2 h3
    obtain ⟨q1, q2, q3, q4, q5⟩ := (hstart wb h1 h2).1
    have Db := D0.below h2
    have hgr := hrow.below h2 hrow.lt
    have hvb := hvr.below h2 hvr.lt
    exact ⟨cell_two q1 h3 hgr.lt (Row.neP hgr Db.pd (by decide)) (Row.ne hgr Db.dv (by decide)), cell_two q2 h3 h1.lt (Row.neP h1 Db.pd (by decide)) (Row.ne h1 Db.dv (by decide)), cell_two q3 h3 hvb.lt (Row.neP hvb Db.pd (by decide)) (Row.ne hvb Db.dv (by decide)), cell_two q4 h3 hvb.lt (Row.neP hvb Db.pd (by decide)) (Row.ne hvb Db.dv (by decide)), range_two q5 h3 h1.lt (Row.neP h1 Db.pd (by decide)) (Row.ne h1 Db.dv (by decide))⟩
  clear hrow hcx hcy hvr
  go_enter Tryz.func10, Tryz.ntmps10
  go_wp2_with (first | (refine wpList_boxM rfl 36 _ rfl cs rfl ?_; intro wb hr hb; have ⟨hQ0, a0⟩ := hstart wb hr hb; clear hQ0; go_simp))
  have hS0 := (hstart wb.drew hr.drew hb.drew).1
  refine Code.wp_mono (Q := fun e_ a_ w_ => e_ = .normal ∧ a_ = Act.mk (List.toArray ((.pointer (some ⟨g, 0, none⟩)) :: (.agg cs.toArray) :: undef :: (.pointer (some ⟨w.heap.size, 0, none⟩)) :: (.bool true) :: (.pointer (some ⟨w.heap.size, 0, none⟩)) :: (.int .i64 6) :: (.bool false) :: (.bool false) :: (.bool false) :: (.bool false) :: undef :: undef :: undef :: (.bool false) :: (.bool false) :: (.bool false) :: undef :: undef :: undef :: (.bool true) :: (.bool false) :: (.bool true) :: undef :: undef :: undef :: (.pointer (some ⟨g, 0, none⟩)) :: (.pointer (some ⟨g, 0, none⟩)) :: (.pointer (some ⟨g, 1, none⟩)) :: (.slice (some ⟨vb, 0, none⟩) len cap) :: (.pointer (some ⟨w.heap.size, 1, none⟩)) :: (.int .i64 wn) :: (.pointer (some ⟨g, 0, none⟩)) :: (.pointer (some ⟨g, 0, none⟩)) :: (.pointer (some ⟨g, 1, none⟩)) :: (.slice (some ⟨vb, 0, none⟩) len cap) :: (.int .i64 len) :: (.int .i64 k) :: (.pointer (some ⟨vb, k * 2, none⟩)) :: (.agg #[.pointer (some ⟨x, 0, none⟩), .pointer (some ⟨y, 0, none⟩)]) :: (.agg cs.toArray) :: (.bool true) :: [])) [] ∧ ∃ d', DevAt w_ gs x y d' ∧ Two x y wb.drew w_) ?_ ?_
  case refine_2 =>
    refine wp_region_held (S := Chosen g vb w.heap.size cap len k x y wn cs) (by kernel_rfl) ?_
    refine wpAnyH_take (i := 0) (v := .pointer (some ⟨g, 0, none⟩)) rfl (by kernel_rfl) (by kernel_rfl) (by kernel_rfl) (fun _ _ _ h => no_panic h.1) (yields_of rfl (fun w' hw' => by go_split_ands; go_simp)) hS0 ?_
    try simp only [List.getElem_toArray, List.getElem_cons_succ, List.getElem_cons_zero, Act.put, List.setIfInBounds_toArray, List.set_cons_succ, List.set_cons_zero]
    refine wpAnyH_take (i := 1) (v := .pointer (some ⟨g, 0, none⟩)) rfl (by kernel_rfl) (by kernel_rfl) (by kernel_rfl) (fun _ _ _ h => no_panic h.1) (yields_of rfl (fun w' hw' => by go_split_ands; go_simp)) hS0 ?_
    try simp only [List.getElem_toArray, List.getElem_cons_succ, List.getElem_cons_zero, Act.put, List.setIfInBounds_toArray, List.set_cons_succ, List.set_cons_zero]
    refine wpAnyH_take (i := 2) (v := .pointer (some ⟨g, 1, none⟩)) rfl (by kernel_rfl) (by kernel_rfl) (by kernel_rfl) (fun _ _ _ h => no_panic h.1) (yields_of rfl (fun w' hw' => by go_split_ands; go_simp)) hS0 ?_
    try simp only [List.getElem_toArray, List.getElem_cons_succ, List.getElem_cons_zero, Act.put, List.setIfInBounds_toArray, List.set_cons_succ, List.set_cons_zero]
    refine wpAnyH_take (i := 3) (v := .slice (some ⟨vb, 0, none⟩) len cap) rfl (by kernel_rfl) (by kernel_rfl) (by kernel_rfl) (fun _ _ _ h => no_panic h.1) (yields_of rfl (fun w' hw' => by go_split_ands; go_simp)) hS0 ?_
    try simp only [List.getElem_toArray, List.getElem_cons_succ, List.getElem_cons_zero, Act.put, List.setIfInBounds_toArray, List.set_cons_succ, List.set_cons_zero]
    refine wpAnyH_take (i := 4) (v := .pointer (some ⟨w.heap.size, 1, none⟩)) rfl (by kernel_rfl) (by kernel_rfl) (by kernel_rfl) (fun _ _ _ h => no_panic h.1) (yields_of rfl (fun w' hw' => by go_split_ands; go_simp)) hS0 ?_
    try simp only [List.getElem_toArray, List.getElem_cons_succ, List.getElem_cons_zero, Act.put, List.setIfInBounds_toArray, List.set_cons_succ, List.set_cons_zero]
    refine wpAnyH_take (i := 5) (v := .int .i64 wn) rfl (by kernel_rfl) (by kernel_rfl) (by kernel_rfl) (fun _ _ _ h => no_panic h.1) (yields_of rfl (fun w' hw' => by go_split_ands; go_simp)) hS0 ?_
    try simp only [List.getElem_toArray, List.getElem_cons_succ, List.getElem_cons_zero, Act.put, List.setIfInBounds_toArray, List.set_cons_succ, List.set_cons_zero]
    refine wpAnyH_take (i := 6) (v := .pointer (some ⟨g, 0, none⟩)) rfl (by kernel_rfl) (by kernel_rfl) (by kernel_rfl) (fun _ _ _ h => no_panic h.1) (yields_of rfl (fun w' hw' => by go_split_ands; go_simp)) hS0 ?_
    try simp only [List.getElem_toArray, List.getElem_cons_succ, List.getElem_cons_zero, Act.put, List.setIfInBounds_toArray, List.set_cons_succ, List.set_cons_zero]
    refine wpAnyH_take (i := 7) (v := .pointer (some ⟨g, 0, none⟩)) rfl (by kernel_rfl) (by kernel_rfl) (by kernel_rfl) (fun _ _ _ h => no_panic h.1) (yields_of rfl (fun w' hw' => by go_split_ands; go_simp)) hS0 ?_
    try simp only [List.getElem_toArray, List.getElem_cons_succ, List.getElem_cons_zero, Act.put, List.setIfInBounds_toArray, List.set_cons_succ, List.set_cons_zero]
    refine wpAnyH_take (i := 8) (v := .pointer (some ⟨g, 1, none⟩)) rfl (by kernel_rfl) (by kernel_rfl) (by kernel_rfl) (fun _ _ _ h => no_panic h.1) (yields_of rfl (fun w' hw' => by go_split_ands; go_simp)) hS0 ?_
    try simp only [List.getElem_toArray, List.getElem_cons_succ, List.getElem_cons_zero, Act.put, List.setIfInBounds_toArray, List.set_cons_succ, List.set_cons_zero]
    refine wpAnyH_take (i := 9) (v := .slice (some ⟨vb, 0, none⟩) len cap) rfl (by kernel_rfl) (by kernel_rfl) (by kernel_rfl) (fun _ _ _ h => no_panic h.1) (yields_of rfl (fun w' hw' => by go_split_ands; go_simp)) hS0 ?_
    try simp only [List.getElem_toArray, List.getElem_cons_succ, List.getElem_cons_zero, Act.put, List.setIfInBounds_toArray, List.set_cons_succ, List.set_cons_zero]
    refine wpAnyH_take (i := 10) (v := .int .i64 len) rfl (by kernel_rfl) (by kernel_rfl) (by kernel_rfl) (fun _ _ _ h => no_panic h.1) (yields_of rfl (fun w' hw' => by go_split_ands; go_simp)) hS0 ?_
    try simp only [List.getElem_toArray, List.getElem_cons_succ, List.getElem_cons_zero, Act.put, List.setIfInBounds_toArray, List.set_cons_succ, List.set_cons_zero]
    refine wpAnyH_take (i := 14) (v := .agg cs.toArray) rfl (by kernel_rfl) (by kernel_rfl) (by kernel_rfl) (fun _ _ _ h => no_panic h.1) (yields_load rfl 36 _ rfl w.heap.size 0 rfl cs _ (fun _ h => h.2.2.2.2) HU.out rfl HSZ.out) hS0 ?_
    try simp only [List.getElem_toArray, List.getElem_cons_succ, List.getElem_cons_zero, Act.put, List.setIfInBounds_toArray, List.set_cons_succ, List.set_cons_zero]
    refine wpAnyH_ready (rs := [11]) (by kernel_rfl) (by simp) (AllReadyH.cons (i := 11) rfl (fun K hK => ?_) AllReadyH.nil)
    refine step_of rfl ?_
    simp only [List.getElem_toArray, List.getElem_cons_succ, List.getElem_cons_zero, Act.put, List.setIfInBounds_toArray, List.set_cons_succ, List.set_cons_zero]
    refine wp_callC 27 #[.int .i64 wn, .int .i64 len] (by go_simp) ?_
    refine (hpk _).mono ?_
    rintro _ wy ⟨rfl, hwy⟩
    rw [hwy]
    refine ⟨_, rfl, hK.out _ _ hS0 (fun _ => ?_)⟩
    clear hK K hwy wy
    simp only [List.getElem_toArray, List.getElem_cons_succ, List.getElem_cons_zero, Act.put, List.setIfInBounds_toArray, List.set_cons_succ, List.set_cons_zero]
    refine wpAnyH_take (i := 12) (v := .pointer (some ⟨vb, k * 2, none⟩)) rfl (by kernel_rfl) (by kernel_rfl) (by kernel_rfl) (fun _ _ _ h => no_panic h.1) (yields_of rfl (fun w' hw' => by go_split_ands; go_simp)) hS0 ?_
    try simp only [List.getElem_toArray, List.getElem_cons_succ, List.getElem_cons_zero, Act.put, List.setIfInBounds_toArray, List.set_cons_succ, List.set_cons_zero]
    refine wpAnyH_take (i := 13) (v := .agg #[.pointer (some ⟨x, 0, none⟩), .pointer (some ⟨y, 0, none⟩)]) rfl (by kernel_rfl) (by kernel_rfl) (by kernel_rfl) (fun _ _ _ h => no_panic h.1) (yields_of rfl (fun w' hw' => by go_split_ands; go_simp)) hS0 ?_
    try simp only [List.getElem_toArray, List.getElem_cons_succ, List.getElem_cons_zero, Act.put, List.setIfInBounds_toArray, List.set_cons_succ, List.set_cons_zero]
    refine wpAnyH_ready (rs := [15]) (by kernel_rfl) (by simp) (AllReadyH.cons (i := 15) rfl (fun K hK => ?_) AllReadyH.nil)
    refine step_of rfl ?_
    simp only [List.getElem_toArray, List.getElem_cons_succ, List.getElem_cons_zero, Act.put, List.setIfInBounds_toArray, List.set_cons_succ, List.set_cons_zero]
    refine wp_callC 11 #[.agg #[.pointer (some ⟨x, 0, none⟩), .pointer (some ⟨y, 0, none⟩)], .agg cs.toArray] (by go_simp) ?_
    refine (hask wb.drew hb.drew).mono ?_
    rintro _ w3 ⟨rfl, d', D3, t3⟩
    have hS3 := hafter wb.drew w3 hr.drew hb.drew t3
    refine ⟨_, rfl, hK.out _ _ hS3 (fun _ => ?_)⟩
    clear hK K
    simp only [List.getElem_toArray, List.getElem_cons_succ, List.getElem_cons_zero, Act.put, List.setIfInBounds_toArray, List.set_cons_succ, List.set_cons_zero]
    refine wpAnyH_take (i := 16) (v := .bool true) rfl (by kernel_rfl) (by kernel_rfl) (by kernel_rfl) (fun _ _ _ h => no_panic h.1) (yields_of rfl (fun w' hw' => by go_split_ands; go_simp)) hS3 ?_
    try simp only [List.getElem_toArray, List.getElem_cons_succ, List.getElem_cons_zero, Act.put, List.setIfInBounds_toArray, List.set_cons_succ, List.set_cons_zero]
    exact wpAnyH_done (by kernel_rfl) ⟨rfl, rfl, d', D3, t3⟩ _
  rintro _ _ w3 ⟨rfl, rfl, d', D3, t3⟩
  go_wp2
  go_ret
  refine ⟨rfl, pre ++ (x, y, d') :: post, ?_, by rw [HLN.out, HPS.out]; simp⟩
  have F' := F.below hb.drew
  rw [HPS.out] at F'
  exact F'.asked t3 D3

set_option maxRecDepth 100000 in
set_option maxHeartbeats 1000000 in
theorem law_fstep7 (hsum : SumSaid sumSpecRef) (w1 w : World) (g gs : Nat) (ps : List (Nat × Nat × Dv)) (wn n : Int) (s t : ByteArray) (rest : List Value) (hrl : rest.length = 15) (G : Ground w1 gs) (F : FedAt w1 g gs ps w) (hne : 0 < ps.length) (hl : ps.length < 1000) (hs : s.size ≤ 1500000)
    (hn0 : -9223372036854775808 ≤ n) (hn1 : n ≤ 9223372036854775807) (hm0 : -9223372036854775808 ≤ wn) (hm1 : wn ≤ 9223372036854775807) :
    Calls Tryz.prog 10 #[.pointer (some ⟨g, 0, none⟩), .agg (opCells 7 wn n s t rest).toArray] w fun r w' => r = .returned (.bool true) ∧ ∃ qs, FedAt w1 g gs qs w' ∧ qs.length = ps.length := by
  obtain ⟨cs, HC⟩ : ∃ cs, Hid (cs = opCells 7 wn n s t rest) := ⟨_, rfl⟩
  have hcl : cs.length = 20 := by rw [HC.out]; simp [opCells, hrl]
  rw [← HC.out]
  obtain ⟨k, HK⟩ : ∃ k, Hid (k = pickN wn ps.length) := ⟨_, rfl⟩
  have hkl : k < ps.length := by rw [HK.out]; exact pickN_lt wn hne
  obtain ⟨vb, cap, x, y, d, pre, post, hps, hrow, ⟨vcs, hvr⟩, hcx, hcy⟩ := F.pick k hkl
  have HPS : Hid (ps = pre ++ (x, y, d) :: post) := hps
  obtain ⟨D0, hx, hy⟩ := F.dev (x, y, d) (by rw [hps]; simp)
  clear hps
  obtain ⟨fs, hu⟩ := underOp
  have HSZ : Hid ((Tryz.prog.info? 36).map (·.size) = some cs.length) := by show _ = _; rw [sizeOp, hcl]
  have HU : Hid (Tryz.prog.underlying 36 = some (.struct fs)) := hu
  clear hu
  obtain ⟨len, HLN⟩ : ∃ len, Hid (len = ps.length) := ⟨_, rfl⟩
  rw [← HLN.out] at hne hl hkl HK hrow ⊢
  have hkl' : (k : Int) < len := by omega
  have hk0 : (0 : Int) ≤ k := by omega
  have hpk : ∀ W, Calls Tryz.prog 27 #[.int .i64 wn, .int .i64 len] W fun r w' => r = .returned (.int .i64 k) ∧ w' = W := fun W => by rw [HK.out]; exact law_pick wn len W hm0 hm1 hne (by omega)
  have hstart : ∀ wb, Row wb w.heap.size cs 36 → Below w.heap.size w wb → Chosen g vb w.heap.size cap len k x y wn cs wb ∧ wb.cell? ⟨w.heap.size, 0, none⟩ = some (.int .i64 7) := by
    intro wb h1 h2
    have c1 : w.cell? ⟨g, 1, none⟩ = some (.slice (some ⟨vb, 0, none⟩) len cap) := hrow.cell.trans rfl
    refine ⟨⟨(h2.cell (p := ⟨g, 1, none⟩) hrow.lt).trans c1, ?_, (h2.cell (p := ⟨vb, k * 2, none⟩) hvr.lt).trans hcx, (h2.cell (p := ⟨vb, k * 2 + 1, none⟩) hvr.lt).trans hcy, h1.range⟩, ?_⟩
    · rw [HC.out] at h1; exact h1.cell.trans rfl
    · rw [HC.out] at h1; exact h1.cell.trans rfl
  have hask : ∀ wb, Below w.heap.size w wb → Calls Tryz.prog 11 #[.agg #[.pointer (some ⟨x, 0, none⟩), .pointer (some ⟨y, 0, none⟩)], .agg cs.toArray] wb (Asked gs x y wb) := by
    intro wb h2
    rw [HC.out]
    exact law_asks hsum w1 wb gs x y d 7 wn n s t rest G (F.base.trans (h2.mono F.base.size)) (D0.below h2) hx hy hs hn0 hn1 (by omega)
  have hafter : ∀ wb wc, Row wb w.heap.size cs 36 → Below w.heap.size w wb → Two x y wb wc → Chosen g vb w.heap.size cap len k x y wn cs wc := by
    intro wb wc h1 h2 h3
    obtain ⟨q1, q2, q3, q4, q5⟩ := (hstart wb h1 h2).1
    have Db := D0.below h2
    have hgr := hrow.below h2 hrow.lt
    have hvb := hvr.below h2 hvr.lt
    exact ⟨cell_two q1 h3 hgr.lt (Row.neP hgr Db.pd (by decide)) (Row.ne hgr Db.dv (by decide)), cell_two q2 h3 h1.lt (Row.neP h1 Db.pd (by decide)) (Row.ne h1 Db.dv (by decide)), cell_two q3 h3 hvb.lt (Row.neP hvb Db.pd (by decide)) (Row.ne hvb Db.dv (by decide)), cell_two q4 h3 hvb.lt (Row.neP hvb Db.pd (by decide)) (Row.ne hvb Db.dv (by decide)), range_two q5 h3 h1.lt (Row.neP h1 Db.pd (by decide)) (Row.ne h1 Db.dv (by decide))⟩
  clear hrow hcx hcy hvr
  go_enter Tryz.func10, Tryz.ntmps10
  go_wp2_with (first | (refine wpList_boxM rfl 36 _ rfl cs rfl ?_; intro wb hr hb; have ⟨hQ0, a0⟩ := hstart wb hr hb; clear hQ0; go_simp))
  have hS0 := (hstart wb.drew hr.drew hb.drew).1
  refine Code.wp_mono (Q := fun e_ a_ w_ => e_ = .normal ∧ a_ = Act.mk (List.toArray ((.pointer (some ⟨g, 0, none⟩)) :: (.agg cs.toArray) :: undef :: (.pointer (some ⟨w.heap.size, 0, none⟩)) :: (.bool true) :: (.pointer (some ⟨w.heap.size, 0, none⟩)) :: (.int .i64 7) :: (.bool false) :: (.bool false) :: (.bool false) :: (.bool false) :: undef :: undef :: undef :: (.bool false) :: (.bool false) :: (.bool false) :: undef :: undef :: undef :: (.bool true) :: (.bool false) :: (.bool false) :: (.bool true) :: undef :: undef :: (.pointer (some ⟨g, 0, none⟩)) :: (.pointer (some ⟨g, 0, none⟩)) :: (.pointer (some ⟨g, 1, none⟩)) :: (.slice (some ⟨vb, 0, none⟩) len cap) :: (.pointer (some ⟨w.heap.size, 1, none⟩)) :: (.int .i64 wn) :: (.pointer (some ⟨g, 0, none⟩)) :: (.pointer (some ⟨g, 0, none⟩)) :: (.pointer (some ⟨g, 1, none⟩)) :: (.slice (some ⟨vb, 0, none⟩) len cap) :: (.int .i64 len) :: (.int .i64 k) :: (.pointer (some ⟨vb, k * 2, none⟩)) :: (.agg #[.pointer (some ⟨x, 0, none⟩), .pointer (some ⟨y, 0, none⟩)]) :: (.agg cs.toArray) :: (.bool true) :: [])) [] ∧ ∃ d', DevAt w_ gs x y d' ∧ Two x y wb.drew w_) ?_ ?_
  case refine_2 =>
    refine wp_region_held (S := Chosen g vb w.heap.size cap len k x y wn cs) (by kernel_rfl) ?_
    refine wpAnyH_take (i := 0) (v := .pointer (some ⟨g, 0, none⟩)) rfl (by kernel_rfl) (by kernel_rfl) (by kernel_rfl) (fun _ _ _ h => no_panic h.1) (yields_of rfl (fun w' hw' => by go_split_ands; go_simp)) hS0 ?_
    try simp only [List.getElem_toArray, List.getElem_cons_succ, List.getElem_cons_zero, Act.put, List.setIfInBounds_toArray, List.set_cons_succ, List.set_cons_zero]
    refine wpAnyH_take (i := 1) (v := .pointer (some ⟨g, 0, none⟩)) rfl (by kernel_rfl) (by kernel_rfl) (by kernel_rfl) (fun _ _ _ h => no_panic h.1) (yields_of rfl (fun w' hw' => by go_split_ands; go_simp)) hS0 ?_
    try simp only [List.getElem_toArray, List.getElem_cons_succ, List.getElem_cons_zero, Act.put, List.setIfInBounds_toArray, List.set_cons_succ, List.set_cons_zero]
    refine wpAnyH_take (i := 2) (v := .pointer (some ⟨g, 1, none⟩)) rfl (by kernel_rfl) (by kernel_rfl) (by kernel_rfl) (fun _ _ _ h => no_panic h.1) (yields_of rfl (fun w' hw' => by go_split_ands; go_simp)) hS0 ?_
    try simp only [List.getElem_toArray, List.getElem_cons_succ, List.getElem_cons_zero, Act.put, List.setIfInBounds_toArray, List.set_cons_succ, List.set_cons_zero]
    refine wpAnyH_take (i := 3) (v := .slice (some ⟨vb, 0, none⟩) len cap) rfl (by kernel_rfl) (by kernel_rfl) (by kernel_rfl) (fun _ _ _ h => no_panic h.1) (yields_of rfl (fun w' hw' => by go_split_ands; go_simp)) hS0 ?_
    try simp only [List.getElem_toArray, List.getElem_cons_succ, List.getElem_cons_zero, Act.put, List.setIfInBounds_toArray, List.set_cons_succ, List.set_cons_zero]
    refine wpAnyH_take (i := 4) (v := .pointer (some ⟨w.heap.size, 1, none⟩)) rfl (by kernel_rfl) (by kernel_rfl) (by kernel_rfl) (fun _ _ _ h => no_panic h.1) (yields_of rfl (fun w' hw' => by go_split_ands; go_simp)) hS0 ?_
    try simp only [List.getElem_toArray, List.getElem_cons_succ, List.getElem_cons_zero, Act.put, List.setIfInBounds_toArray, List.set_cons_succ, List.set_cons_zero]
    refine wpAnyH_take (i := 5) (v := .int .i64 wn) rfl (by kernel_rfl) (by kernel_rfl) (by kernel_rfl) (fun _ _ _ h => no_panic h.1) (yields_of rfl (fun w' hw' => by go_split_ands; go_simp)) hS0 ?_
    try simp only [List.getElem_toArray, List.getElem_cons_succ, List.getElem_cons_zero, Act.put, List.setIfInBounds_toArray, List.set_cons_succ, List.set_cons_zero]
    refine wpAnyH_take (i := 6) (v := .pointer (some ⟨g, 0, none⟩)) rfl (by kernel_rfl) (by kernel_rfl) (by kernel_rfl) (fun _ _ _ h => no_panic h.1) (yields_of rfl (fun w' hw' => by go_split_ands; go_simp)) hS0 ?_
    try simp only [List.getElem_toArray, List.getElem_cons_succ, List.getElem_cons_zero, Act.put, List.setIfInBounds_toArray, List.set_cons_succ, List.set_cons_zero]
    refine wpAnyH_take (i := 7) (v := .pointer (some ⟨g, 0, none⟩)) rfl (by kernel_rfl) (by kernel_rfl) (by kernel_rfl) (fun _ _ _ h => no_panic h.1) (yields_of rfl (fun w' hw' => by go_split_ands; go_simp)) hS0 ?_
    try simp only [List.getElem_toArray, List.getElem_cons_succ, List.getElem_cons_zero, Act.put, List.setIfInBounds_toArray, List.set_cons_succ, List.set_cons_zero]
    refine wpAnyH_take (i := 8) (v := .pointer (some ⟨g, 1, none⟩)) rfl (by kernel_rfl) (by kernel_rfl) (by kernel_rfl) (fun _ _ _ h => no_panic h.1) (yields_of rfl (fun w' hw' => by go_split_ands; go_simp)) hS0 ?_
    try simp only [List.getElem_toArray, List.getElem_cons_succ, List.getElem_cons_zero, Act.put, List.setIfInBounds_toArray, List.set_cons_succ, List.set_cons_zero]
    refine wpAnyH_take (i := 9) (v := .slice (some ⟨vb, 0, none⟩) len cap) rfl (by kernel_rfl) (by kernel_rfl) (by kernel_rfl) (fun _ _ _ h => no_panic h.1) (yields_of rfl (fun w' hw' => by go_split_ands; go_simp)) hS0 ?_
    try simp only [List.getElem_toArray, List.getElem_cons_succ, List.getElem_cons_zero, Act.put, List.setIfInBounds_toArray, List.set_cons_succ, List.set_cons_zero]
    refine wpAnyH_take (i := 10) (v := .int .i64 len) rfl (by kernel_rfl) (by kernel_rfl) (by kernel_rfl) (fun _ _ _ h => no_panic h.1) (yields_of rfl (fun w' hw' => by go_split_ands; go_simp)) hS0 ?_
    try simp only [List.getElem_toArray, List.getElem_cons_succ, List.getElem_cons_zero, Act.put, List.setIfInBounds_toArray, List.set_cons_succ, List.set_cons_zero]
    refine wpAnyH_take (i := 14) (v := .agg cs.toArray) rfl (by kernel_rfl) (by kernel_rfl) (by kernel_rfl) (fun _ _ _ h => no_panic h.1) (yields_load rfl 36 _ rfl w.heap.size 0 rfl cs _ (fun _ h => h.2.2.2.2) HU.out rfl HSZ.out) hS0 ?_
    try simp only [List.getElem_toArray, List.getElem_cons_succ, List.getElem_cons_zero, Act.put, List.setIfInBounds_toArray, List.set_cons_succ, List.set_cons_zero]
    refine wpAnyH_ready (rs := [11]) (by kernel_rfl) (by simp) (AllReadyH.cons (i := 11) rfl (fun K hK => ?_) AllReadyH.nil)
    refine step_of rfl ?_
    simp only [List.getElem_toArray, List.getElem_cons_succ, List.getElem_cons_zero, Act.put, List.setIfInBounds_toArray, List.set_cons_succ, List.set_cons_zero]
    refine wp_callC 27 #[.int .i64 wn, .int .i64 len] (by go_simp) ?_
    refine (hpk _).mono ?_
    rintro _ wy ⟨rfl, hwy⟩
    rw [hwy]
    refine ⟨_, rfl, hK.out _ _ hS0 (fun _ => ?_)⟩
    clear hK K hwy wy
    simp only [List.getElem_toArray, List.getElem_cons_succ, List.getElem_cons_zero, Act.put, List.setIfInBounds_toArray, List.set_cons_succ, List.set_cons_zero]
    refine wpAnyH_take (i := 12) (v := .pointer (some ⟨vb, k * 2, none⟩)) rfl (by kernel_rfl) (by kernel_rfl) (by kernel_rfl) (fun _ _ _ h => no_panic h.1) (yields_of rfl (fun w' hw' => by go_split_ands; go_simp)) hS0 ?_
    try simp only [List.getElem_toArray, List.getElem_cons_succ, List.getElem_cons_zero, Act.put, List.setIfInBounds_toArray, List.set_cons_succ, List.set_cons_zero]
    refine wpAnyH_take (i := 13) (v := .agg #[.pointer (some ⟨x, 0, none⟩), .pointer (some ⟨y, 0, none⟩)]) rfl (by kernel_rfl) (by kernel_rfl) (by kernel_rfl) (fun _ _ _ h => no_panic h.1) (yields_of rfl (fun w' hw' => by go_split_ands; go_simp)) hS0 ?_
    try simp only [List.getElem_toArray, List.getElem_cons_succ, List.getElem_cons_zero, Act.put, List.setIfInBounds_toArray, List.set_cons_succ, List.set_cons_zero]
    refine wpAnyH_ready (rs := [15]) (by kernel_rfl) (by simp) (AllReadyH.cons (i := 15) rfl (fun K hK => ?_) AllReadyH.nil)
    refine step_of rfl ?_
    simp only [List.getElem_toArray, List.getElem_cons_succ, List.getElem_cons_zero, Act.put, List.setIfInBounds_toArray, List.set_cons_succ, List.set_cons_zero]
    refine wp_callC 11 #[.agg #[.pointer (some ⟨x, 0, none⟩), .pointer (some ⟨y, 0, none⟩)], .agg cs.toArray] (by go_simp) ?_
    refine (hask wb.drew hb.drew).mono ?_
    rintro _ w3 ⟨rfl, d', D3, t3⟩
    have hS3 := hafter wb.drew w3 hr.drew hb.drew t3
    refine ⟨_, rfl, hK.out _ _ hS3 (fun _ => ?_)⟩
    clear hK K
    simp only [List.getElem_toArray, List.getElem_cons_succ, List.getElem_cons_zero, Act.put, List.setIfInBounds_toArray, List.set_cons_succ, List.set_cons_zero]
    refine wpAnyH_take (i := 16) (v := .bool true) rfl (by kernel_rfl) (by kernel_rfl) (by kernel_rfl) (fun _ _ _ h => no_panic h.1) (yields_of rfl (fun w' hw' => by go_split_ands; go_simp)) hS3 ?_
    try simp only [List.getElem_toArray, List.getElem_cons_succ, List.getElem_cons_zero, Act.put, List.setIfInBounds_toArray, List.set_cons_succ, List.set_cons_zero]
    exact wpAnyH_done (by kernel_rfl) ⟨rfl, rfl, d', D3, t3⟩ _
  rintro _ _ w3 ⟨rfl, rfl, d', D3, t3⟩
  go_wp2
  go_ret
  refine ⟨rfl, pre ++ (x, y, d') :: post, ?_, by rw [HLN.out, HPS.out]; simp⟩
  have F' := F.below hb.drew
  rw [HPS.out] at F'
  exact F'.asked t3 D3

set_option maxRecDepth 100000 in
set_option maxHeartbeats 1000000 in
theorem law_fstep4 (w1 w : World) (g gs : Nat) (ps : List (Nat × Nat × Dv)) (wn n : Int) (s t : ByteArray) (rest : List Value) (hrl : rest.length = 15) (hg : w1.heap.size ≤ g) (F : FedAt w1 g gs ps w) (hl : ps.length < 1000) (hs : s.size ≤ 1500000) :
    Calls Tryz.prog 10 #[.pointer (some ⟨g, 0, none⟩), .agg (opCells 4 wn n s t rest).toArray] w fun r w' => r = .returned (.bool true) ∧ ∃ qs, FedAt w1 g gs qs w' ∧ ps.length ≤ qs.length ∧ qs.length ≤ ps.length + 1 := by
  obtain ⟨cs, HC⟩ : ∃ cs, Hid (cs = opCells 4 wn n s t rest) := ⟨_, rfl⟩
  have hcl : cs.length = 20 := by rw [HC.out]; simp [opCells, hrl]
  rw [← HC.out]
  have hmd : ∀ wb, Below w.heap.size w wb → Calls Tryz.prog 9 #[.pointer (some ⟨g, 0, none⟩), .agg cs.toArray] wb fun r w' => r = .returned (.bool true) ∧ ∃ qs, FedAt w1 g gs qs w' ∧ ps.length ≤ qs.length ∧ qs.length ≤ ps.length + 1 := by
    intro wb hb
    rw [HC.out]
    refine (law_made w1 wb g gs ps wn n s t rest hg (F.below hb) hs hl).mono ?_
    rintro r w' ⟨rfl, qs, hF, hq⟩
    refine ⟨rfl, _, hF, ?_, ?_⟩
    · simp
    · rw [List.length_append, hq]; split <;> omega
  have h0 : ∀ wb, Row wb w.heap.size cs 36 → wb.cell? ⟨w.heap.size, 0, none⟩ = some (.int .i64 4) := by
    intro wb h
    rw [HC.out] at h
    exact h.cell.trans rfl
  go_enter Tryz.func10, Tryz.ntmps10
  go_wp2_with (first | (refine wpList_boxM rfl 36 _ rfl cs rfl ?_; intro wb hr hb; have a0 := h0 wb hr; go_simp) | (refine wpList_loadOp rfl _ rfl _ rfl _ cs hr hcl ?_; go_simp) | (go_at_call 9; refine (hmd wb hb).mono ?_; rintro _ w3 ⟨rfl, hq3⟩))
  go_ret
  exact ⟨rfl, hq3⟩

/-- one step of New, Feed, a whole frame, Flash -/
theorem law_fstep (hsum : SumSaid sumSpecRef) (w1 w : World) (g gs : Nat) (ps : List (Nat × Nat × Dv)) (kd wn n : Int) (s t : ByteArray) (rest : List Value) (hrl : rest.length = 15) (G : Ground w1 gs) (hg : w1.heap.size ≤ g) (F : FedAt w1 g gs ps w) (hne : 0 < ps.length) (hl : ps.length < 1000) (hs : s.size ≤ 1500000)
    (hn0 : -9223372036854775808 ≤ n) (hn1 : n ≤ 9223372036854775807) (hm0 : -9223372036854775808 ≤ wn) (hm1 : wn ≤ 9223372036854775807) (hk0 : 4 ≤ kd) (hk1 : kd ≤ 7) :
    Calls Tryz.prog 10 #[.pointer (some ⟨g, 0, none⟩), .agg (opCells kd wn n s t rest).toArray] w fun r w' => r = .returned (.bool true) ∧ ∃ qs, FedAt w1 g gs qs w' ∧ ps.length ≤ qs.length ∧ qs.length ≤ ps.length + 1 := by
  have hsame : ∀ (r : Ending) (w' : World), (r = .returned (.bool true) ∧ ∃ qs, FedAt w1 g gs qs w' ∧ qs.length = ps.length) → (r = .returned (.bool true) ∧ ∃ qs, FedAt w1 g gs qs w' ∧ ps.length ≤ qs.length ∧ qs.length ≤ ps.length + 1) := by
    rintro r w' ⟨h1, qs, h2, h3⟩
    exact ⟨h1, qs, h2, by omega, by omega⟩
  rcases (by omega : kd = 4 ∨ kd = 5 ∨ kd = 6 ∨ kd = 7) with rfl | rfl | rfl | rfl
  · exact law_fstep4 w1 w g gs ps wn n s t rest hrl hg F hl hs
  · exact (law_fstep5 hsum w1 w g gs ps wn n s t rest hrl G F hne hl hs hn0 hn1 hm0 hm1).mono hsame
  · exact (law_fstep6 hsum w1 w g gs ps wn n s t rest hrl G F hne hl hs hn0 hn1 hm0 hm1).mono hsame
  · exact (law_fstep7 hsum w1 w g gs ps wn n s t rest hrl G F hne hl hs hn0 hn1 hm0 hm1).mono hsame
end Go.Proofs.YtaokemapkgggoaaGreatDoor
