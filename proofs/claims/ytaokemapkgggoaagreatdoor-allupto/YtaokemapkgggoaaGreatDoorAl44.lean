import Derived.Test.YtaokemapkgggoaaGreatDoorAl42
import Derived.Test.YtaokemapkgggoaaGreatDoorAl43
import Derived.Deep.RegionHeld3
import Derived.Test.YtaokemapkgggoaaGreatDoorAl40
import Derived.Test.YtaokemapkgggoaaGreatDoorAl10
set_option linter.unusedSimpArgs false
namespace Go.Proofs.YtaokemapkgggoaaGreatDoor
open Go.RowKit

set_option maxRecDepth 100000 in
theorem law_add_err (g : Nat) (w : World) (e : Int) :
    Calls Tryz.prog 23 #[.pointer (some ⟨g, 0, none⟩), .pointer none, .int .i64 e, .pointer none, .int .i64 e] w fun r w' => r = .returned (.bool true) ∧ w' = w := by
  go_enter Tryz.func23, Tryz.ntmps23
  go_wp2_with (go_at_call 16; refine (law_num _ _).mono ?_; rintro _ _ ⟨rfl, rfl⟩)
  go_ret
  exact ⟨rfl, rfl⟩

/-- what a step's copy says of images -/
def restK (K1 K2 : Kep) (m : Bool) : List Value := K1.cells ++ K2.cells ++ [.bool m]
/-- while a device is opened -/
structure OpenAt (w1 w0 : World) (g gs : Nat) (ps : List (Nat × Nat × Dv)) (cs : List Value) (w : World) : Prop where
  fed : FedAt w1 g gs ps w
  op : Row w w0.heap.size cs 36
  low : w0.heap.size ≤ w.heap.size
theorem OpenAt.below {w1 w0 w w' : World} {g gs : Nat} {ps : List (Nat × Nat × Dv)} {cs : List Value} (M : OpenAt w1 w0 g gs ps cs w) (hb : Below w.heap.size w w') : OpenAt w1 w0 g gs ps cs w' :=
  ⟨M.fed.below hb, M.op.below hb M.op.lt, Nat.le_trans M.low hb.size⟩
theorem OpenAt.cells {w1 w0 w : World} {g gs : Nat} {ps : List (Nat × Nat × Dv)} {wn n : Int} {s t : ByteArray} {K1 K2 : Kep} {m : Bool} {cs : List Value} (M : OpenAt w1 w0 g gs ps cs w) (hc : cs = opCells 8 wn n s t (restK K1 K2 m)) :
    w.cell? ⟨w0.heap.size, 0, none⟩ = some (.int .i64 8) ∧ w.cell? ⟨w0.heap.size, 3, none⟩ = some (.string s) ∧ w.cell? ⟨w0.heap.size, 19, none⟩ = some (.bool m) ∧ w.cell? ⟨g, 0, none⟩ = some (.pointer (some ⟨gs, 0, none⟩)) := by
  have h := M.op
  rw [hc] at h
  exact ⟨h.cell.trans rfl, h.cell.trans rfl, h.cell.trans rfl, by obtain ⟨v, hr, _⟩ := M.fed.row; exact hr.cell.trans rfl⟩

/-- a flash that opens no device -/
def OpensNone (gs : Nat) (f : ByteArray) : Prop :=
  (∀ W : World, Calls Tryz.prog 25 #[.string f] W fun r w' => r = .returned (.tuple #[.pointer none, .int .i64 2]) ∧ Below W.heap.size W w') ∧
  (∀ W : World, Calls Tryz.prog 26 #[.pointer (some ⟨gs, 0, none⟩), .string f] W fun r w' => r = .returned (.tuple #[.pointer none, .int .i64 2]) ∧ Below W.heap.size W w')
/-- a flash that opens a device -/
def OpensOne (gs : Nat) (f : ByteArray) (d : Dv) : Prop :=
  (∀ W : World, Calls Tryz.prog 25 #[.string f] W fun r w' => ∃ x, r = .returned (.tuple #[.pointer (some ⟨x, 0, none⟩), .int .i64 0]) ∧ W.heap.size ≤ x ∧ PdAny w' x d ∧ Below W.heap.size W w') ∧
  (∀ W : World, Calls Tryz.prog 26 #[.pointer (some ⟨gs, 0, none⟩), .string f] W fun r w' => ∃ y, r = .returned (.tuple #[.pointer (some ⟨y, 0, none⟩), .int .i64 0]) ∧ W.heap.size ≤ y ∧ DvAt w' y d ∧ Below W.heap.size W w') ∧
  d.sound ∧ d.stands ∧ d.sm = gs ∧ d.inn.size < 52
theorem open_says (gs : Nat) (f : ByteArray) : OpensNone gs f ∨ ∃ d, OpensOne gs f d := by
  by_cases hf : f.size = 200
  · obtain ⟨E, HE⟩ : ∃ E, E = (Dv.of gs (f.extract 0 100) (f.extract 100 200)).bootC := ⟨_, rfl⟩
    have hP := fun W => prog_Open gs f W hf E HE
    have hR := fun W => ref_Open gs f W hf E HE
    by_cases hz : E.2 = 0
    · right
      have s0 : (f.extract 0 100).size = 100 := by rw [ByteArray.size_extract]; omega
      have s1 : (f.extract 100 200).size = 100 := by rw [ByteArray.size_extract]; omega
      obtain ⟨hs, hst, -, -, -, -, -, hin, hsm⟩ := open_dev s0 s1 HE hz
      refine ⟨E.1, fun W => (hP W).mono ?_, fun W => (hR W).mono ?_, hs, hst, hsm, by rw [hin]; show (0 : Nat) < 52; omega⟩
      · rintro r w' ⟨h | h, hb⟩
        · obtain ⟨_, g, hg, hr, hd⟩ := h
          exact ⟨g, hr, hg, hd, hb⟩
        · exact absurd hz h.1
      · rintro r w' ⟨h | h, hb⟩
        · obtain ⟨_, g, hg, hr, hd⟩ := h
          exact ⟨g, hr, hg, hd, hb⟩
        · exact absurd hz h.1
    · left
      refine ⟨fun W => (hP W).mono ?_, fun W => (hR W).mono ?_⟩
      · rintro r w' ⟨h | h, hb⟩
        · exact absurd h.1 hz
        · exact ⟨h.2, hb⟩
      · rintro r w' ⟨h | h, hb⟩
        · exact absurd h.1 hz
        · exact ⟨h.2, hb⟩
  · left
    refine ⟨fun W => (prog_Open_size f W hf).mono ?_, fun W => (ref_Open_size gs f W hf).mono ?_⟩
    · rintro r w' ⟨h, e⟩
      exact ⟨h, by rw [e]; exact Below.refl _ _⟩
    · rintro r w' ⟨h, e⟩
      exact ⟨h, by rw [e]; exact Below.refl _ _⟩
theorem OpensOne.dev {gs : Nat} {f : ByteArray} {d : Dv} (h : OpensOne gs f d) {w : World} {x y : Nat} (hp : PdAny w x d) (hd : DvAt w y d) : DevAt w gs x y d := ⟨hp, hd, h.2.2.1, h.2.2.2.1, h.2.2.2.2.1, h.2.2.2.2.2⟩
theorem wp_normal {P : Program} {c : Code} {Q : Exit → Act → World → Prop} {a : Act} {w : World} (h : c.wp P (fun e a' w' => e = .normal ∧ Q .normal a' w') a w) : c.wp P Q a w :=
  wp_mono h fun e a' w' k => by
    obtain ⟨rfl, k⟩ := k
    exact k
theorem range_sub7 {w : World} {b : Nat} {cs : List Value} {t : TypeId} (h : Row w b cs t) (o : Nat) (ds : List Value) (hd : (cs.drop o).take ds.length = ds) : w.rangeAt b o ds := by
  intro j v hv
  rw [h.cell]
  rw [← hd, List.getElem?_take] at hv
  split at hv
  · rw [List.getElem?_drop] at hv
    exact hv
  · cases hv
theorem img_small {k : Kep} (h : k.fair) : k.img.length ≤ 100000000 := by
  have := h.pin; have := h.k0; have := h.k1; have := h.k2; have := h.k3
  have e := fun b : ByteArray => (show b.data.toList.length = b.size by rw [Array.length_toList]; rfl)
  simp [Kep.img, closed, Kep.body, Kep.head, keyPart, padTo, e]
  omega

set_option maxRecDepth 100000 in
set_option maxHeartbeats 1000000 in
theorem law_open_made (w1 w : World) (g gs : Nat) (ps : List (Nat × Nat × Dv)) (wn n : Int) (s t : ByteArray) (K1 K2 : Kep) (hg : w1.heap.size ≤ g) (F : FedAt w1 g gs ps w) (f1 : K1.fair) (f2 : K2.fair) (hl : ps.length < 1000) :
    Calls Tryz.prog 9 #[.pointer (some ⟨g, 0, none⟩), .agg (opCells 8 wn n s t (restK K1 K2 true)).toArray] w fun r w' => r = .returned (.bool true) ∧ ∃ qs, FedAt w1 g gs (ps ++ qs) w' ∧ qs.length ≤ 1 := by
  obtain ⟨cs, HC⟩ : ∃ cs, Hid (cs = opCells 8 wn n s t (restK K1 K2 true)) := ⟨_, rfl⟩
  rw [← HC.out]
  have hmk : ∀ wb, Row wb w.heap.size cs 36 → Below w.heap.size w wb → OpenAt w1 w g gs ps cs wb := fun wb h1 h2 => ⟨F.below h2, h1, h2.size⟩
  go_enter Tryz.func9, Tryz.ntmps9
  go_wp2_with (first | (refine wpList_boxM rfl 36 _ rfl cs rfl ?_; intro wb hr3 hb3; have M := hmk wb hr3 hb3; clear hr3 hb3; obtain ⟨a0, a3, a19, a1⟩ := M.cells HC.out; go_simp))
  have hu' := underKept
  obtain ⟨fs, hu⟩ := hu'
  have HU : Hid _ := hu
  clear hu
  have hO1 : ∀ W, OpenAt w1 w g gs ps cs W → W.rangeAt w.heap.size 5 K1.cells ∧ W.rangeAt w.heap.size 12 K2.cells := by
    intro W M'
    have h := M'.op
    rw [HC.out] at h
    exact ⟨range_sub7 h 5 K1.cells (by simp [opCells, restK, Kep.cells]), range_sub7 h 12 K2.cells (by simp [opCells, restK, Kep.cells])⟩
  have keepS : ∀ W W', (W.rangeAt w.heap.size 5 K1.cells ∧ W.rangeAt w.heap.size 12 K2.cells ∧ OpenAt w1 w g gs ps cs W) → Below W.heap.size W W' → (W'.rangeAt w.heap.size 5 K1.cells ∧ W'.rangeAt w.heap.size 12 K2.cells ∧ OpenAt w1 w g gs ps cs W') := fun W W' h hb => by
    have M' := h.2.2.below hb
    exact ⟨(hO1 _ M').1, (hO1 _ M').2, M'⟩
  have hS0 : wb.drew.rangeAt w.heap.size 5 K1.cells ∧ wb.drew.rangeAt w.heap.size 12 K2.cells ∧ OpenAt w1 w g gs ps cs wb.drew := by
    have M' := M.below (Below.refl _ _).drew
    exact ⟨(hO1 _ M').1, (hO1 _ M').2, M'⟩
  clear a0 a3 a19 a1
  refine wp_normal ?_
  refine wp_region_held (S := fun W => W.rangeAt w.heap.size 5 K1.cells ∧ W.rangeAt w.heap.size 12 K2.cells ∧ OpenAt w1 w g gs ps cs W) (by kernel_rfl) ?_
  refine wpAnyH_take (i := 0) (v := .pointer (some ⟨w.heap.size, 5, none⟩)) rfl (by kernel_rfl) (by kernel_rfl) (by kernel_rfl) (fun _ _ _ h => no_panic h.1) (yields_of rfl (fun w' hw' => by clear hw'; go_simp)) hS0 ?_
  try simp only [List.getElem_toArray, List.getElem_cons_succ, List.getElem_cons_zero, Act.put, List.setIfInBounds_toArray, List.set_cons_succ, List.set_cons_zero]
  refine wpAnyH_take (i := 1) (v := .agg K1.cells.toArray) rfl (by kernel_rfl) (by kernel_rfl) (by kernel_rfl) (fun _ _ _ h => no_panic h.1) (yields_load rfl 34 _ rfl w.heap.size 5 rfl K1.cells _ (fun _ h => h.1) HU.out rfl sizeKept) hS0 ?_
  try simp only [List.getElem_toArray, List.getElem_cons_succ, List.getElem_cons_zero, Act.put, List.setIfInBounds_toArray, List.set_cons_succ, List.set_cons_zero]
  refine wpAnyH_take (i := 3) (v := .pointer (some ⟨w.heap.size, 12, none⟩)) rfl (by kernel_rfl) (by kernel_rfl) (by kernel_rfl) (fun _ _ _ h => no_panic h.1) (yields_of rfl (fun w' hw' => by clear hw'; go_simp)) hS0 ?_
  try simp only [List.getElem_toArray, List.getElem_cons_succ, List.getElem_cons_zero, Act.put, List.setIfInBounds_toArray, List.set_cons_succ, List.set_cons_zero]
  refine wpAnyH_take (i := 4) (v := .agg K2.cells.toArray) rfl (by kernel_rfl) (by kernel_rfl) (by kernel_rfl) (fun _ _ _ h => no_panic h.1) (yields_load rfl 34 _ rfl w.heap.size 12 rfl K2.cells _ (fun _ h => h.2.1) HU.out rfl sizeKept) hS0 ?_
  try simp only [List.getElem_toArray, List.getElem_cons_succ, List.getElem_cons_zero, Act.put, List.setIfInBounds_toArray, List.set_cons_succ, List.set_cons_zero]
  refine wpAnyH_ready (rs := [2]) (by kernel_rfl) (by simp) (AllReadyH.cons (i := 2) rfl (fun K hK => ?_) AllReadyH.nil)
  refine step_of rfl ?_
  try simp only [List.getElem_toArray, List.getElem_cons_succ, List.getElem_cons_zero, Act.put, List.setIfInBounds_toArray, List.set_cons_succ, List.set_cons_zero]
  refine wp_callC 24 #[.agg K1.cells.toArray] (by go_simp) ?_
  refine (ref_Image K1 _ f1).mono ?_
  rintro _ wi ⟨rfl, hbi⟩
  have hSwi := keepS _ _ hS0 hbi
  refine ⟨_, rfl, hK.out _ _ hSwi (fun _ => ?_)⟩
  clear hK K
  try simp only [List.getElem_toArray, List.getElem_cons_succ, List.getElem_cons_zero, Act.put, List.setIfInBounds_toArray, List.set_cons_succ, List.set_cons_zero]
  refine wpAnyH_ready (rs := [5]) (by kernel_rfl) (by simp) (AllReadyH.cons (i := 5) rfl (fun K hK => ?_) AllReadyH.nil)
  refine step_of rfl ?_
  try simp only [List.getElem_toArray, List.getElem_cons_succ, List.getElem_cons_zero, Act.put, List.setIfInBounds_toArray, List.set_cons_succ, List.set_cons_zero]
  refine wp_callC 24 #[.agg K2.cells.toArray] (by go_simp) ?_
  refine (ref_Image K2 _ f2).mono ?_
  rintro _ wj ⟨rfl, hbj⟩
  have hSwj := keepS _ _ hSwi hbj
  refine ⟨_, rfl, hK.out _ _ hSwj (fun _ => ?_)⟩
  clear hK K
  try simp only [List.getElem_toArray, List.getElem_cons_succ, List.getElem_cons_zero, Act.put, List.setIfInBounds_toArray, List.set_cons_succ, List.set_cons_zero]
  have hz1 : (str K1.img).size ≤ 100000000 := by rw [str_size]; exact img_small f1
  have hz2 : (str K2.img).size ≤ 100000000 := by rw [str_size]; exact img_small f2
  have hz3 : (str K1.img).size + (str K2.img).size ≤ 9223372036854775807 := by omega
  refine wpAnyH_take (i := 6) (v := .string (str K1.img ++ str K2.img)) rfl (by kernel_rfl) (by kernel_rfl) (by kernel_rfl) (fun _ _ _ h => no_panic h.1) (yields_of rfl (fun w' hw' => by clear hw'; go_simp)) hSwj ?_
  try simp only [List.getElem_toArray, List.getElem_cons_succ, List.getElem_cons_zero, Act.put, List.setIfInBounds_toArray, List.set_cons_succ, List.set_cons_zero]
  refine wpAnyH_take (i := 7) (v := .string (str K1.img ++ str K2.img)) rfl (by kernel_rfl) (by kernel_rfl) (by kernel_rfl) (fun _ _ _ h => no_panic h.1) (yields_of rfl (fun w' hw' => by clear hw'; go_simp)) hSwj ?_
  try simp only [List.getElem_toArray, List.getElem_cons_succ, List.getElem_cons_zero, Act.put, List.setIfInBounds_toArray, List.set_cons_succ, List.set_cons_zero]
  refine wpAnyH_done (by kernel_rfl) ⟨rfl, ?_⟩ _
  have Mj := hSwj.2.2
  clear hSwj hSwi hS0 hz1 hz2 hz3 hbi hbj keepS hO1 HU
  obtain ⟨fS, HFS⟩ : ∃ fS, Hid (fS = str K1.img ++ str K2.img) := ⟨_, rfl⟩
  rw [← HFS.out]
  obtain ⟨a0, a3, a19, a1⟩ := Mj.cells HC.out
  rcases open_says gs fS with hN | ⟨dn, hY⟩
  · have HN : Hid _ := hN
    clear hN
    go_wp2_with (first | (go_at_call 25; refine (HN.out.1 _).mono ?_; rintro _ w2 ⟨rfl, hb2⟩; have M2 := Mj.below hb2; clear hb2; obtain ⟨a0, a3, a19, a1⟩ := M2.cells HC.out) | (go_at_call 26; refine (HN.out.2 _).mono ?_; rintro _ w3 ⟨rfl, hb3⟩; have M3 := M2.below hb3; clear hb3) | (go_at_call 23; refine (law_add_err g _ 2).mono ?_; rintro _ wy ⟨rfl, hwy⟩; rw [hwy]; clear hwy wy))
    go_ret
    exact ⟨rfl, [], by rw [List.append_nil]; exact M3.fed, by simp⟩
  · have HY : Hid _ := hY
    clear hY
    go_wp2_with (first | (go_at_call 25; refine (HY.out.1 _).mono ?_; rintro _ w2 ⟨x, rfl, hx2, hp2, hb2⟩; have M2 := Mj.below hb2; obtain ⟨a0, a3, a19, a1⟩ := M2.cells HC.out) | (go_at_call 26; refine (HY.out.2.1 _).mono ?_; rintro _ w3 ⟨y, rfl, hy3, hd3, hb3⟩; have M3 := M2.below hb3; have D3 := OpensOne.dev HY.out (hp2.below hb3 hp2.lt) hd3) | (go_at_call 23; refine (law_add_some w1 w3 g gs ps x y dn hg M3.fed D3 ?c1 ?c2 ?c3 hl).mono ?_; (case c1 => (have := Mj.fed.base.size; omega)); (case c2 => (have := M2.fed.base.size; omega)); (case c3 => (intro p hp; have hq := ((Mj.fed.dev p hp).1); have hl1 := hq.pd.lt; have hl2 := Row.lt hq.dv; have hbs := hb2.size; exact ⟨by omega, by omega⟩)); rintro _ w4 ⟨rfl, F4⟩))
    go_ret
    exact ⟨rfl, _, F4, by simp⟩

set_option maxRecDepth 100000 in
set_option maxHeartbeats 1000000 in
theorem law_open_plain (w1 w : World) (g gs : Nat) (ps : List (Nat × Nat × Dv)) (wn n : Int) (fS t : ByteArray) (K1 K2 : Kep) (hg : w1.heap.size ≤ g) (F : FedAt w1 g gs ps w) (hl : ps.length < 1000) :
    Calls Tryz.prog 9 #[.pointer (some ⟨g, 0, none⟩), .agg (opCells 8 wn n fS t (restK K1 K2 false)).toArray] w fun r w' => r = .returned (.bool true) ∧ ∃ qs, FedAt w1 g gs (ps ++ qs) w' ∧ qs.length ≤ 1 := by
  obtain ⟨cs, HC⟩ : ∃ cs, Hid (cs = opCells 8 wn n fS t (restK K1 K2 false)) := ⟨_, rfl⟩
  rw [← HC.out]
  have hmk : ∀ wb, Row wb w.heap.size cs 36 → Below w.heap.size w wb → OpenAt w1 w g gs ps cs wb := fun wb h1 h2 => ⟨F.below h2, h1, h2.size⟩
  go_enter Tryz.func9, Tryz.ntmps9
  go_wp2_with (first | (refine wpList_boxM rfl 36 _ rfl cs rfl ?_; intro wb hr3 hb3; have M := hmk wb hr3 hb3; clear hr3 hb3; obtain ⟨a0, a3, a19, a1⟩ := M.cells HC.out; go_simp))
  rcases open_says gs fS with hN | ⟨dn, hY⟩
  · have HN : Hid _ := hN
    clear hN
    go_wp2_with (first | (go_at_call 25; refine (HN.out.1 _).mono ?_; rintro _ w2 ⟨rfl, hb2⟩; have M2 := M.below hb2; clear hb2; obtain ⟨a0, a3, a19, a1⟩ := M2.cells HC.out) | (go_at_call 26; refine (HN.out.2 _).mono ?_; rintro _ w3 ⟨rfl, hb3⟩; have M3 := M2.below hb3; clear hb3) | (go_at_call 23; refine (law_add_err g _ 2).mono ?_; rintro _ wy ⟨rfl, hwy⟩; rw [hwy]; clear hwy wy))
    go_ret
    exact ⟨rfl, [], by rw [List.append_nil]; exact M3.fed, by simp⟩
  · have HY : Hid _ := hY
    clear hY
    go_wp2_with (first | (go_at_call 25; refine (HY.out.1 _).mono ?_; rintro _ w2 ⟨x, rfl, hx2, hp2, hb2⟩; have M2 := M.below hb2; obtain ⟨a0, a3, a19, a1⟩ := M2.cells HC.out) | (go_at_call 26; refine (HY.out.2.1 _).mono ?_; rintro _ w3 ⟨y, rfl, hy3, hd3, hb3⟩; have M3 := M2.below hb3; have D3 := OpensOne.dev HY.out (hp2.below hb3 hp2.lt) hd3) | (go_at_call 23; refine (law_add_some w1 w3 g gs ps x y dn hg M3.fed D3 ?c1 ?c2 ?c3 hl).mono ?_; (case c1 => (have := M.fed.base.size; omega)); (case c2 => (have := M2.fed.base.size; omega)); (case c3 => (intro p hp; have hq := ((M.fed.dev p hp).1); have hl1 := hq.pd.lt; have hl2 := Row.lt hq.dv; have hbs := hb2.size; exact ⟨by omega, by omega⟩)); rintro _ w4 ⟨rfl, F4⟩))
    go_ret
    exact ⟨rfl, _, F4, by simp⟩

theorem law_open (w1 w : World) (g gs : Nat) (ps : List (Nat × Nat × Dv)) (wn n : Int) (s t : ByteArray) (K1 K2 : Kep) (m : Bool) (hg : w1.heap.size ≤ g) (F : FedAt w1 g gs ps w) (f1 : K1.fair) (f2 : K2.fair) (hl : ps.length < 1000) :
    Calls Tryz.prog 9 #[.pointer (some ⟨g, 0, none⟩), .agg (opCells 8 wn n s t (restK K1 K2 m)).toArray] w fun r w' => r = .returned (.bool true) ∧ ∃ qs, FedAt w1 g gs (ps ++ qs) w' ∧ qs.length ≤ 1 := by
  cases m with
  | true => exact law_open_made w1 w g gs ps wn n s t K1 K2 hg F f1 f2 hl
  | false => exact law_open_plain w1 w g gs ps wn n s t K1 K2 hg F hl
end Go.Proofs.YtaokemapkgggoaaGreatDoor

namespace Go.Proofs.YtaokemapkgggoaaGreatDoor
open Go.RowKit

theorem cut_sound {d : Dv} (h : d.sound) (n : Int) (hn : n ≤ 9223372036854775807) : ({ d with cut := n } : Dv).sound := ⟨h.n0, h.n1, h.t0, h.t1, h.p0, h.p1, h.k0, h.k1, h.k2, h.k3, h.wh, hn, h.s0, h.s1⟩
theorem booted_sound {d : Dv} (h : d.sound) : d.booted.sound := ⟨h.n0, h.n1, h.t0, h.t1, h.p0, h.p1, h.k0, h.k1, h.k2, h.k3, h.wh, by show (-1 : Int) ≤ _; omega, h.s0, h.s1⟩
theorem booted_stands {d : Dv} (h : d.stands) : d.booted.stands := ⟨h.wh, h.right, h.same, h.oth⟩

set_option maxRecDepth 100000 in
set_option maxHeartbeats 1000000 in
theorem law_ask9 (w : World) (gs x y : Nat) (d : Dv) (wn n : Int) (s t : ByteArray) (rest : List Value) (D : DevAt w gs x y d) (hn1 : n ≤ 9223372036854775807) :
    Calls Tryz.prog 11 #[.agg #[.pointer (some ⟨x, 0, none⟩), .pointer (some ⟨y, 0, none⟩)], .agg (opCells 9 wn n s t rest).toArray] w (Asked gs x y w) := by
  obtain ⟨cs, HC⟩ : ∃ cs, Hid (cs = opCells 9 wn n s t rest) := ⟨_, rfl⟩
  rw [← HC.out]
  have hxy := D.ne
  by_cases hn : n < 0
  · go_enter Tryz.func11, Tryz.ntmps11
    go_wp2_with (first | (refine wpList_boxM rfl 36 _ rfl cs rfl ?_; intro wb hr3 hb3; have A := ask_made D wb cs HC.out hr3 hb3; clear hr3 hb3; obtain ⟨a0, a1, a2, a3, a4⟩ := run_ask_cells A; go_simp) | (go_at_call 33; refine (prog_Cut_no wb x n hn).mono ?_; rintro _ wz ⟨rfl, ez⟩; rw [ez]; clear ez wz))
    have hrc := ref_SetCut wb.drew y d n (Row.drew A.dev.dv)
    rw [if_pos hn, if_pos hn] at hrc
    have A' := A.below (Below.refl _ _).drew
    have hS0 : wb.drew.cell? ⟨w.heap.size, 1, none⟩ = some (.pointer (some ⟨y, 0, none⟩)) ∧ wb.drew.cell? ⟨w.heap.size + 1, 2, none⟩ = some (.int .i64 n) := ⟨a1, a3⟩
    have hS3 : ∀ W, wb.drew.grownBy W (some y) → W.cell? ⟨w.heap.size, 1, none⟩ = some (.pointer (some ⟨y, 0, none⟩)) ∧ W.cell? ⟨w.heap.size + 1, 2, none⟩ = some (.int .i64 n) := fun W hg => ⟨(Row.grown A'.pair hg (Row.ne A'.pair A'.dev.dv (by decide))).cell.trans rfl, (Row.grown A'.op hg (Row.ne A'.op A'.dev.dv (by decide))).cell.trans rfl⟩
    clear a0 a1 a2 a3 a4
    go_region_held3 (fun W => W.cell? ⟨w.heap.size, 1, none⟩ = some (.pointer (some ⟨y, 0, none⟩)) ∧ W.cell? ⟨w.heap.size + 1, 2, none⟩ = some (.int .i64 n)) (first | exact hS0 | exact hS3 _ hg3) (first | (go_at_call 16; refine (law_num _ _).mono ?_; rintro _ wz ⟨rfl, ez⟩; rw [ez]; clear ez wz) | (go_at_call 34; refine hrc.mono ?_; rintro _ w3 ⟨rfl, hd3, hg3⟩))
    go_wp2
    go_ret
    exact ⟨rfl, d, ⟨A'.dev.pd.grown hg3 hxy, hd3, D.ok, D.st, D.sm, D.inn⟩, A'.two.trans (.of2 hg3)⟩
  · have hn0 : 0 ≤ n := by omega
    go_enter Tryz.func11, Tryz.ntmps11
    go_wp2_with (first | (refine wpList_boxM rfl 36 _ rfl cs rfl ?_; intro wb hr3 hb3; have A := ask_made D wb cs HC.out hr3 hb3; clear hr3 hb3; obtain ⟨a0, a1, a2, a3, a4⟩ := run_ask_cells A; go_simp) | (go_at_call 33; refine (prog_Cut_yes wb x d n A.dev.pd D.ok hn0).mono ?_; rintro _ w2 ⟨rfl, hd2, hg2⟩; obtain ⟨p2, o2, v2, t2⟩ := A.prog hg2; clear a0 a1 a2 a3 a4; have a1 : w2.cell? ⟨w.heap.size, 1, none⟩ = some (.pointer (some ⟨y, 0, none⟩)) := p2.cell.trans rfl; have a2 : w2.cell? ⟨w.heap.size + 1, 2, none⟩ = some (.int .i64 n) := o2.cell.trans rfl))
    have hrc := ref_SetCut w2.drew y d n (Row.drew v2)
    rw [if_neg (by omega), if_neg (by omega)] at hrc
    have hS0 : w2.drew.cell? ⟨w.heap.size, 1, none⟩ = some (.pointer (some ⟨y, 0, none⟩)) ∧ w2.drew.cell? ⟨w.heap.size + 1, 2, none⟩ = some (.int .i64 n) := ⟨a1, a2⟩
    have hS3 : ∀ W, w2.drew.grownBy W (some y) → W.cell? ⟨w.heap.size, 1, none⟩ = some (.pointer (some ⟨y, 0, none⟩)) ∧ W.cell? ⟨w.heap.size + 1, 2, none⟩ = some (.int .i64 n) := fun W hg => ⟨(Row.grown p2.drew hg (Row.ne p2 v2 (by decide))).cell.trans rfl, (Row.grown o2.drew hg (Row.ne o2 v2 (by decide))).cell.trans rfl⟩
    clear a1 a2
    go_region_held3 (fun W => W.cell? ⟨w.heap.size, 1, none⟩ = some (.pointer (some ⟨y, 0, none⟩)) ∧ W.cell? ⟨w.heap.size + 1, 2, none⟩ = some (.int .i64 n)) (first | exact hS0 | exact hS3 _ hg3) (first | (go_at_call 16; refine (law_num _ _).mono ?_; rintro _ wz ⟨rfl, ez⟩; rw [ez]; clear ez wz) | (go_at_call 34; refine hrc.mono ?_; rintro _ w3 ⟨rfl, hd3, hg3⟩))
    go_wp2
    go_ret
    exact ⟨rfl, { d with cut := n }, ⟨PdAny.grown (PdAny.below hd2 (Below.refl _ _).drew hd2.lt) hg3 hxy, hd3, cut_sound D.ok n hn1, D.st.setCut n, D.sm, D.inn⟩, t2.drewT.trans (.of2 hg3)⟩

set_option maxRecDepth 100000 in
set_option maxHeartbeats 1000000 in
theorem law_ask10 (w : World) (gs x y : Nat) (d : Dv) (wn n : Int) (s t : ByteArray) (rest : List Value) (D : DevAt w gs x y d) :
    Calls Tryz.prog 11 #[.agg #[.pointer (some ⟨x, 0, none⟩), .pointer (some ⟨y, 0, none⟩)], .agg (opCells 10 wn n s t rest).toArray] w (Asked gs x y w) := by
  obtain ⟨cs, HC⟩ : ∃ cs, Hid (cs = opCells 10 wn n s t rest) := ⟨_, rfl⟩
  rw [← HC.out]
  have hxy := D.ne
  have hbt := D.st.booted
  go_enter Tryz.func11, Tryz.ntmps11
  go_wp2_with (first | (refine wpList_boxM rfl 36 _ rfl cs rfl ?_; intro wb hr3 hb3; have A := ask_made D wb cs HC.out hr3 hb3; clear hr3 hb3; obtain ⟨a0, a1, a2, a3, a4⟩ := run_ask_cells A; go_simp) | (go_at_call 35; refine (prog_Boot wb x d A.dev.pd D.ok).mono ?_; rintro _ w2 ⟨rfl, hd2, hg2⟩; obtain ⟨p2, o2, v2, t2⟩ := A.prog hg2; clear a0 a1 a2 a3 a4; have a1 : w2.cell? ⟨w.heap.size, 1, none⟩ = some (.pointer (some ⟨y, 0, none⟩)) := p2.cell.trans rfl))
  have hrc := ref_Boot w2.drew y d (Row.drew v2) D.ok.s0 D.ok.s1
  rw [hbt] at hrc
  have hS0 : w2.drew.cell? ⟨w.heap.size, 1, none⟩ = some (.pointer (some ⟨y, 0, none⟩)) := a1
  have hS3 : ∀ W, w2.drew.grownBy W (some y) → W.cell? ⟨w.heap.size, 1, none⟩ = some (.pointer (some ⟨y, 0, none⟩)) := fun W hg => (Row.grown p2.drew hg (Row.ne p2 v2 (by decide))).cell.trans rfl
  clear a1
  go_region_held3 (fun W => W.cell? ⟨w.heap.size, 1, none⟩ = some (.pointer (some ⟨y, 0, none⟩))) (first | exact hS0 | exact hS3 _ hg3) (first | (go_at_call 16; refine (law_num _ _).mono ?_; rintro _ wz ⟨rfl, ez⟩; rw [ez]; clear ez wz) | (go_at_call 36; refine hrc.mono ?_; rintro _ w3 ⟨rfl, hd3, hg3⟩))
  go_wp2
  go_ret
  exact ⟨rfl, d.booted, ⟨PdAny.grown (PdAny.below hd2 (Below.refl _ _).drew hd2.lt) hg3 hxy, hd3, booted_sound D.ok, booted_stands D.st, D.sm, by show (0 : Nat) < 52; omega⟩, t2.drewT.trans (.of2 hg3)⟩

theorem law_asksB (hsum : SumSaid sumSpecRef) (w1 w : World) (gs x y : Nat) (d : Dv) (kd wn n : Int) (s t : ByteArray) (rest : List Value) (G : Ground w1 gs) (hb : Below w1.heap.size w1 w) (D : DevAt w gs x y d) (hx : w1.heap.size ≤ x) (hy : w1.heap.size ≤ y) (hs : s.size ≤ 1500000) (hn0 : -9223372036854775808 ≤ n) (hn1 : n ≤ 9223372036854775807) (hk : kd = 5 ∨ kd = 6 ∨ kd = 7 ∨ kd = 9 ∨ kd = 10) :
    Calls Tryz.prog 11 #[.agg #[.pointer (some ⟨x, 0, none⟩), .pointer (some ⟨y, 0, none⟩)], .agg (opCells kd wn n s t rest).toArray] w (Asked gs x y w) := by
  rcases hk with rfl | rfl | rfl | rfl | rfl
  · exact law_ask5 hsum w1 w gs x y d wn n s t rest G hb D hx hy hs
  · exact law_ask6 hsum w1 w gs x y d wn n s t rest G hb D hx hy hn0 hn1
  · exact law_ask7 w gs x y d wn n s t rest D
  · exact law_ask9 w gs x y d wn n s t rest D hn1
  · exact law_ask10 w gs x y d wn n s t rest D
end Go.Proofs.YtaokemapkgggoaaGreatDoor

namespace Go.Proofs.YtaokemapkgggoaaGreatDoor
open Go.RowKit
theorem equalZ (w : World) : (Op.equalIn 10000 47 (.agg (zrow 32 (.int .u8 0)).toArray) (.agg (zrow 32 (.int .u8 0)).toArray)).run Tryz.prog w = .ok true w := by
  kernel_rfl

end Go.Proofs.YtaokemapkgggoaaGreatDoor
