import Derived.Test.YtaokemapkgggoaaGreatDoorAl10
import Derived.Test.YtaokemapkgggoaaGreatDoorAl11
import Derived.Test.YtaokemapkgggoaaGreatDoorAl39
namespace Go.Proofs.YtaokemapkgggoaaGreatDoor
open Go.RowKit

theorem struct_of {u : Option TypeDesc} (h : (match u with | some (.struct _) => true | _ => false) = true) : ∃ fs, u = some (.struct fs) := by
  split at h
  · exact ⟨_, rfl⟩
  · cases h
theorem underOp0 : (match Tryz.prog.underlying 36 with | some (.struct _) => true | _ => false) = true := by kernel_rfl
theorem underOp : ∃ fs, Tryz.prog.underlying 36 = some (.struct fs) := struct_of underOp0
theorem sizeOp : (Tryz.prog.info? 36).map (·.size) = some 20 := by kernel_rfl
theorem wpList_loadOp {ops : Array Oper} {rest : List Oper} {o : Oper} {a : Act} {w : World} {Q : Exit → Act → World → Prop} (hgd : o.guard = none) (x : Operand) (ho : o.op = .load 36 x) (g : Nat) (hx : a.eval x = .pointer (some ⟨g, 0, none⟩)) (t : TypeId) (cs : List Value)
    (hr : Row w g cs t) (hn : cs.length = 20) (h : wpList Tryz.prog ops Q rest (a.put o.dst (.agg cs.toArray)) w) : wpList Tryz.prog ops Q (o :: rest) a w := by
  obtain ⟨fs, hu⟩ := underOp
  exact wpList_plain hgd fun _ hK => wp_load_row 36 x ho g hx t cs.toArray (0, 0) _ hr hu rfl (by rw [sizeOp]; simp [hn]) (hK _ _ h)

/-- what lies in memory between two steps -/
structure PlayAt (w0 : World) (g gs : Nat) (w : World) : Prop where
  c0 : w.cell? ⟨g, 0, none⟩ = some (.pointer (some ⟨gs, 0, none⟩))
  c1 : w.cell? ⟨g, 1, none⟩ = some (.slice none 0 0)
  summ : Summ w gs
  glob : Glob w
  below : Below w0.heap.size w0 w
theorem PlayAt.next {w0 : World} {g gs : Nat} {w w' : World} (h : PlayAt w0 g gs w) (hb : Below w.heap.size w w') : PlayAt w0 g gs w' :=
  ⟨(hb.cell (p := ⟨g, 0, none⟩) (World.block_lt_of_cell? _ _ h.c0)).trans h.c0, (hb.cell (p := ⟨g, 1, none⟩) (World.block_lt_of_cell? _ _ h.c1)).trans h.c1, h.summ.below hb (Nat.le_refl _), h.glob.below hb (Nat.le_refl _), h.below.trans (hb.mono h.below.size)⟩
end Go.Proofs.YtaokemapkgggoaaGreatDoor

namespace Go.Proofs.YtaokemapkgggoaaGreatDoor
open Go.RowKit

theorem alloc_size (W : World) (o : Obj) : (W.alloc o).heap.size = W.heap.size + 1 := Array.size_push ..

/-- which of n things the number c speaks of -/
def pickN (c : Int) (n : Nat) : Nat := ((if c < 0 then -(c + 1) else c) % n).toNat
theorem pickN_lt (c : Int) {n : Nat} (hn : 0 < n) : pickN c n < n := by
  unfold pickN
  generalize (if c < 0 then -(c + 1) else c) = z
  have := Int.emod_lt_of_pos z (show (0 : Int) < n by omega)
  have := Int.emod_nonneg z (show (n : Int) ≠ 0 by omega)
  omega

set_option maxRecDepth 100000 in
theorem law_pick (c : Int) (n : Nat) (w : World) (hc0 : -9223372036854775808 ≤ c) (hc1 : c ≤ 9223372036854775807) (hn : 0 < n) (hn1 : n ≤ 100000) :
    Calls Tryz.prog 27 #[.int .i64 c, .int .i64 n] w fun r w' => r = .returned (.int .i64 (pickN c n)) ∧ w' = w := by
  have hn' : ¬ (n : Int) = 0 := by omega
  by_cases h : c < 0
  · have e : -(c + 1).tmod n = (pickN c n : Int) := by
      unfold pickN
      rw [if_pos h, ← Int.neg_tmod, Int.tmod_eq_emod_of_nonneg (by omega)]
      have := Int.emod_nonneg (-(c + 1)) hn'
      omega
    have E : Hid (-(c + 1).tmod n = (pickN c n : Int)) := e
    clear e
    go_enter Tryz.func27, Tryz.ntmps27
    go_wp2
    go_ret
    refine ⟨?_, rfl⟩
    rw [E.out]
    rfl
  · have e : c % n = (pickN c n : Int) := by
      unfold pickN
      rw [if_neg h]
      have := Int.emod_nonneg c hn'
      omega
    have E : Hid (c % n = (pickN c n : Int)) := e
    clear e
    go_enter Tryz.func27, Tryz.ntmps27
    go_wp2
    go_ret
    refine ⟨?_, rfl⟩
    rw [E.out]
    rfl

set_option maxRecDepth 100000 in
set_option maxHeartbeats 1000000 in
theorem law_frame (k : Nat) (p : ByteArray) (w : World) (hk : k < 256) (hp : p.size ≤ 50) :
    Calls Tryz.prog 30 #[.int .i64 k, .string p] w fun r w' => ∃ fr : ByteArray, r = .returned (.string fr) ∧ fr.size ≤ 54 ∧ Below w.heap.size w w' := by
  have hpn : p.size ≤ 9223372036854775807 := by omega
  go_enter Tryz.func30, Tryz.ntmps30
  go_wp2
  go_loopw [5, 6] (fun nv iv wr => ∃ (m : Int) (i : Nat), nv = .int .i64 m ∧ iv = .int .i64 i ∧ i ≤ p.size ∧ wr = w) (fun _ iv _ => p.size - (intOf iv).toNat)
  case atStart => exact ⟨_, 0, rfl, rfl, Nat.zero_le _, rfl⟩
  case round =>
    obtain ⟨m, i, rfl, rfl, hi, rfl⟩ := hrel
    by_cases hlt : i < p.size
    · have hlt' : (i : Int) < p.size := by omega
      have hby := byte_at hlt
      go_wp2
      refine ⟨⟨_, i + 1, rfl, by go_num, by omega, trivial⟩, by simp [intOf]; omega⟩
    · have hlt' : ¬ (i : Int) < p.size := by omega
      have h2 := fun (W : World) a b => conv2 W a b W.heap.size rfl
      have h1 := fun a b c => conv1 (wr.alloc (.cells #[.int .u8 a, .int .u8 b] 5)) c (wr.heap.size + 1) (alloc_size _ _).symm
      have e2 : ∀ a b, (strOfNums [a, b]).size = 2 := fun _ _ => rfl
      have e1 : ∀ a, (strOfNums [a]).size = 1 := fun _ => rfl
      go_wp2
      go_ret
      refine ⟨_, rfl, ?_, ?_⟩
      · simp only [ByteArray.size_append, e2, e1]
        show 1 + 2 + p.size + 1 ≤ 54
        omega
      · exact ((Below.refl _ _).alloc (Nat.le_refl _) _).alloc (by rw [alloc_size]; omega) _
end Go.Proofs.YtaokemapkgggoaaGreatDoor

namespace Go.Proofs.YtaokemapkgggoaaGreatDoor
open Go.RowKit

theorem Row.ne {w : World} {a b : Nat} {cs ds : List Value} {s t : TypeId} (h : Row w a cs s) (k : Row w b ds t) (hst : s ≠ t) : a ≠ b := by
  rintro rfl
  unfold Row at h k
  rw [h] at k
  simp only [Option.some.injEq, Obj.cells.injEq] at k
  exact hst k.2.1

theorem PdAny.neR {w : World} {a b : Nat} {d : Dv} {ds : List Value} {t : TypeId} (h : PdAny w a d) (k : Row w b ds t) (hst : 100 ≠ t) : a ≠ b := by
  obtain ⟨_, _, _, h⟩ := h.cells
  exact Row.ne h k hst
theorem Row.neP {w : World} {a b : Nat} {d : Dv} {ds : List Value} {t : TypeId} (k : Row w b ds t) (h : PdAny w a d) (hst : t ≠ 100) : b ≠ a := (h.neR k hst.symm).symm
theorem PdAny.twoE {x y b : Nat} {w w' : World} {d : Dv} (h : PdAny w b d) (k : Two x y w w') (hx : b ≠ x) (hy : b ≠ y) : PdAny w' b d := h.block (k.block b h.lt hx hy)

/-- one device of the program's and the document's, at rest -/
structure DevAt (w : World) (gs x y : Nat) (d : Dv) : Prop where
  pd : PdAny w x d
  dv : DvAt w y d
  ok : d.sound
  st : d.stands
  sm : d.sm = gs
  inn : d.inn.size < 52
theorem DevAt.ne {w : World} {gs x y : Nat} {d : Dv} (h : DevAt w gs x y d) : x ≠ y := PdAny.neR h.pd h.dv (by decide)
theorem DevAt.below {w w' : World} {gs x y : Nat} {d : Dv} (h : DevAt w gs x y d) (hb : Below w.heap.size w w') : DevAt w' gs x y d :=
  ⟨h.pd.below hb h.pd.lt, Row.below h.dv hb (Row.lt h.dv), h.ok, h.st, h.sm, h.inn⟩
theorem DevAt.two {w w' : World} {gs x y a b : Nat} {d e : Dv} (h : DevAt w gs x y d) (k : DevAt w gs a b e) (ht : Two a b w w') (hx : x ≠ a) (hy : y ≠ b) : DevAt w' gs x y d :=
  ⟨PdAny.twoE h.pd ht hx (PdAny.neR h.pd k.dv (by decide)), Row.twoE h.dv ht (Row.neP h.dv k.pd (by decide)) hy, h.ok, h.st, h.sm, h.inn⟩

/-- a step's copy and a pair's copy in memory -/
structure AskAt (w0 : World) (gs x y : Nat) (kd wn n : Int) (s t : ByteArray) (rest : List Value) (d : Dv) (w : World) : Prop where
  pair : Row w w0.heap.size [.pointer (some ⟨x, 0, none⟩), .pointer (some ⟨y, 0, none⟩)] 41
  op : Row w (w0.heap.size + 1) (opCells kd wn n s t rest) 36
  dev : DevAt w gs x y d
  two : Two x y w0 w

theorem run_ask_cells {w0 w : World} {gs x y : Nat} {kd wn n : Int} {s t : ByteArray} {rest : List Value} {d : Dv} (A : AskAt w0 gs x y kd wn n s t rest d w) :
    w.cell? ⟨w0.heap.size, 0, none⟩ = some (.pointer (some ⟨x, 0, none⟩)) ∧ w.cell? ⟨w0.heap.size, 1, none⟩ = some (.pointer (some ⟨y, 0, none⟩)) ∧
    w.cell? ⟨w0.heap.size + 1, 0, none⟩ = some (.int .i64 kd) ∧ w.cell? ⟨w0.heap.size + 1, 2, none⟩ = some (.int .i64 n) ∧ w.cell? ⟨w0.heap.size + 1, 3, none⟩ = some (.string s) :=
  ⟨A.pair.cell.trans rfl, A.pair.cell.trans rfl, A.op.cell.trans rfl, A.op.cell.trans rfl, A.op.cell.trans rfl⟩
section
variable {w0 w w' : World} {gs x y : Nat} {kd wn n : Int} {s t : ByteArray} {rest : List Value} {d d' : Dv}
theorem AskAt.prog (A : AskAt w0 gs x y kd wn n s t rest d w) (hg : w.grownBy w' (some x)) : Row w' w0.heap.size [.pointer (some ⟨x, 0, none⟩), .pointer (some ⟨y, 0, none⟩)] 41 ∧ Row w' (w0.heap.size + 1) (opCells kd wn n s t rest) 36 ∧ DvAt w' y d ∧ Two x y w0 w' :=
  ⟨Row.grown A.pair hg (Row.neP A.pair A.dev.pd (by decide)), Row.grown A.op hg (Row.neP A.op A.dev.pd (by decide)), Row.grown A.dev.dv hg (Row.neP A.dev.dv A.dev.pd (by decide)), A.two.trans (.of1 hg)⟩
theorem AskAt.below (A : AskAt w0 gs x y kd wn n s t rest d w) (hb : Below w.heap.size w w') : AskAt w0 gs x y kd wn n s t rest d w' :=
  ⟨A.pair.below hb A.pair.lt, A.op.below hb A.op.lt, A.dev.below hb, A.two.trans (.ofB hb)⟩
end

/-- what was there ahead of all devices -/
structure Ground (w1 : World) (gs : Nat) : Prop where
  summ : Summ w1 gs
  glob : Glob w1
theorem Ground.globX {w1 w w' : World} {gs x : Nat} (G : Ground w1 gs) (hb : Below w1.heap.size w1 w) (hx : w1.heap.size ≤ x) (hg : w.grownBy w' (some x)) : Glob w' :=
  G.glob.below (below_two (y := x) hb (.of1 hg) (Nat.le_refl _) hx hx) (Nat.le_refl _)
theorem Ground.summX {w1 w w' : World} {gs x : Nat} (G : Ground w1 gs) (hb : Below w1.heap.size w1 w) (hx : w1.heap.size ≤ x) (hg : w.grownBy w' (some x)) : Summ w' gs :=
  G.summ.below (below_two (y := x) hb (.of1 hg) (Nat.le_refl _) hx hx) (Nat.le_refl _)

/-- what asking leaves -/
def Asked (gs x y : Nat) (w : World) (r : Ending) (w' : World) : Prop := r = .returned (.bool true) ∧ ∃ d', DevAt w' gs x y d' ∧ Two x y w w'
end Go.Proofs.YtaokemapkgggoaaGreatDoor

namespace Go.Proofs.YtaokemapkgggoaaGreatDoor
open Go.RowKit

theorem feed_same (d : Dv) (l : List UInt8) (n : Nat) (m : List UInt8) : feedC n (d.withIn m) l = feedC n d l := feedC_inB n d (str m) l
theorem ask_made {w : World} {gs x y : Nat} {kd wn n : Int} {s t : ByteArray} {rest : List Value} {d : Dv} (D : DevAt w gs x y d) (wb : World) (cs : List Value) (hc : cs = opCells kd wn n s t rest)
    (h3 : Row wb (w.alloc (.cells #[.pointer (some ⟨x, 0, none⟩), .pointer (some ⟨y, 0, none⟩)] 41)).heap.size cs 36)
    (h4 : Below (w.alloc (.cells #[.pointer (some ⟨x, 0, none⟩), .pointer (some ⟨y, 0, none⟩)] 41)).heap.size (w.alloc (.cells #[.pointer (some ⟨x, 0, none⟩), .pointer (some ⟨y, 0, none⟩)] 41)) wb) :
    AskAt w gs x y kd wn n s t rest d wb := by
  have h1 : Row (w.alloc (.cells #[.pointer (some ⟨x, 0, none⟩), .pointer (some ⟨y, 0, none⟩)] 41)) w.heap.size [.pointer (some ⟨x, 0, none⟩), .pointer (some ⟨y, 0, none⟩)] 41 := Row.made w _ _
  have h2 : Below w.heap.size w (w.alloc (.cells #[.pointer (some ⟨x, 0, none⟩), .pointer (some ⟨y, 0, none⟩)] 41)) := (Below.refl _ _).alloc (Nat.le_refl _) _
  have h5 := alloc_size w (.cells #[.pointer (some ⟨x, 0, none⟩), .pointer (some ⟨y, 0, none⟩)] 41)
  refine ⟨h1.below h4 h1.lt, ?_, (D.below h2).below h4, (Two.ofB h2).trans (.ofB h4)⟩
  rw [← hc, ← h5]
  exact h3

set_option maxRecDepth 100000 in
set_option maxHeartbeats 1000000 in
theorem law_ask5 (hsum : SumSaid sumSpecRef) (w1 w : World) (gs x y : Nat) (d : Dv) (wn n : Int) (s t : ByteArray) (rest : List Value) (G : Ground w1 gs) (hb : Below w1.heap.size w1 w) (D : DevAt w gs x y d) (hx : w1.heap.size ≤ x) (hy : w1.heap.size ≤ y) (hs : s.size ≤ 1500000) :
    Calls Tryz.prog 11 #[.agg #[.pointer (some ⟨x, 0, none⟩), .pointer (some ⟨y, 0, none⟩)], .agg (opCells 5 wn n s t rest).toArray] w (Asked gs x y w) := by
  obtain ⟨cs, HC⟩ : ∃ cs, Hid (cs = opCells 5 wn n s t rest) := ⟨_, rfl⟩
  obtain ⟨fin, HF⟩ : ∃ fin, Hid (fin = feedC ((d.inn ++ s).size + 1) d (d.inn ++ s).data.toList) := ⟨_, rfl⟩
  have HG := feedC_good ((d.inn ++ s).size + 1) d (d.inn ++ s).data.toList (by rw [Array.length_toList]; exact Nat.lt_succ_self _) D.ok D.st
  rw [← HF.out] at HG
  obtain ⟨fok, ffit, fsm, finn⟩ := HG
  rw [← HC.out]
  have hin := D.inn
  have hsz : d.inn.size + s.size < 2000000 := by omega
  have hxy := D.ne
  go_enter Tryz.func11, Tryz.ntmps11
  go_wp2_with (first | (refine wpList_boxM rfl 36 _ rfl cs rfl ?_; intro wb hr3 hb3; have A := ask_made D wb cs HC.out hr3 hb3; clear hr3 hb3; obtain ⟨a0, a1, a2, a3, a4⟩ := run_ask_cells A; go_simp) | (go_at_call 28; refine (prog_Feed wb x d s A.dev.pd D.st D.ok (fun _ h => G.globX (below_two hb A.two (Nat.le_refl _) hx hy) hx h) hsz).mono ?_; rw [← HF.out]; rintro _ w2 ⟨rfl, hd2, hg2⟩; obtain ⟨p2, o2, v2, t2⟩ := A.prog hg2; clear a0 a1 a2 a3 a4; have a1 : w2.cell? ⟨w.heap.size, 1, none⟩ = some (.pointer (some ⟨y, 0, none⟩)) := p2.cell.trans rfl; have a4 : w2.cell? ⟨w.heap.size + 1, 3, none⟩ = some (.string s) := o2.cell.trans rfl) | (go_at_call 29; have hrf := ref_FeedC hsum w2 y d s v2 D.ok (fun _ h => by rw [D.sm]; exact G.summX (below_two hb t2 (Nat.le_refl _) hx hy) hy h) hsz; rw [feed_same, ← HF.out] at hrf; refine hrf.mono ?_; clear hrf; rintro _ w3 ⟨rfl, hd3, hg3⟩))
  go_ret
  exact ⟨rfl, fin.2, ⟨PdAny.grown hd2 hg3 hxy, hd3, fok, ffit, fsm.trans D.sm, finn⟩, t2.trans (.of2 hg3)⟩

set_option maxRecDepth 100000 in
set_option maxHeartbeats 1000000 in
theorem law_ask7 (w : World) (gs x y : Nat) (d : Dv) (wn n : Int) (s t : ByteArray) (rest : List Value) (D : DevAt w gs x y d) :
    Calls Tryz.prog 11 #[.agg #[.pointer (some ⟨x, 0, none⟩), .pointer (some ⟨y, 0, none⟩)], .agg (opCells 7 wn n s t rest).toArray] w (Asked gs x y w) := by
  obtain ⟨cs, HC⟩ : ∃ cs, Hid (cs = opCells 7 wn n s t rest) := ⟨_, rfl⟩
  rw [← HC.out]
  have hz : d.h0.size + d.h1.size < 100000000 := by
    have h0 := D.ok.s0
    have h1 := D.ok.s1
    omega
  go_enter Tryz.func11, Tryz.ntmps11
  go_wp2_with (first | (refine wpList_boxM rfl 36 _ rfl cs rfl ?_; intro wb hr3 hb3; have A := ask_made D wb cs HC.out hr3 hb3; clear hr3 hb3; obtain ⟨a0, a1, a2, a3, a4⟩ := run_ask_cells A; go_simp) | (go_at_call 31; refine (prog_Flash wb x d A.dev.pd D.ok).mono ?_; rintro _ w2 ⟨rfl, hb2⟩; have A2 := A.below hb2; clear a0 a1 a2 a3 a4 hb2 A; obtain ⟨a0, a1, a2, a3, a4⟩ := run_ask_cells A2) | (go_at_call 32; refine (ref_Flash w2 y d A2.dev.dv hz).mono ?_; rintro _ w3 ⟨rfl, hb3⟩))
  go_ret
  have A3 := A2.below hb3
  exact ⟨rfl, d, A3.dev, A3.two⟩

set_option maxRecDepth 100000 in
set_option maxHeartbeats 1000000 in
theorem law_ask6 (hsum : SumSaid sumSpecRef) (w1 w : World) (gs x y : Nat) (d : Dv) (wn n : Int) (s t : ByteArray) (rest : List Value) (G : Ground w1 gs) (hb : Below w1.heap.size w1 w) (D : DevAt w gs x y d) (hx : w1.heap.size ≤ x) (hy : w1.heap.size ≤ y) (hn0 : -9223372036854775808 ≤ n) (hn1 : n ≤ 9223372036854775807) :
    Calls Tryz.prog 11 #[.agg #[.pointer (some ⟨x, 0, none⟩), .pointer (some ⟨y, 0, none⟩)], .agg (opCells 6 wn n s t rest).toArray] w (Asked gs x y w) := by
  obtain ⟨cs, HC⟩ : ∃ cs, Hid (cs = opCells 6 wn n s t rest) := ⟨_, rfl⟩
  rw [← HC.out]
  have hin := D.inn
  have hxy := D.ne
  have hpk : ∀ W, Calls Tryz.prog 27 #[.int .i64 n, .int .i64 256] W fun r w' => ∃ k : Nat, r = .returned (.int .i64 k) ∧ k < 256 ∧ w' = W := fun W => (law_pick n 256 W hn0 hn1 (by omega) (by omega)).mono (fun r w' h => ⟨_, h.1, pickN_lt n (by omega), h.2⟩)
  by_cases h50 : 50 < s.size
  · have h50' : (50 : Int) < s.size := by omega
    have h50l : (50 : Int) ≤ s.size := by omega
    obtain ⟨p, HP⟩ : ∃ p, Hid (p = s.extract 0 50) := ⟨_, rfl⟩
    have hpz : p.size ≤ 50 := by rw [HP.out, ByteArray.size_extract]; omega
    have hpx : s.extract 0 50 = p := HP.out.symm
    go_enter Tryz.func11, Tryz.ntmps11
    go_wp2_with (first | (refine wpList_boxM rfl 36 _ rfl cs rfl ?_; intro wb hr3 hb3; have A := ask_made D wb cs HC.out hr3 hb3; clear hr3 hb3; obtain ⟨a0, a1, a2, a3, a4⟩ := run_ask_cells A; go_simp) | (go_at_call 27; refine (hpk wb).mono ?_; rintro _ wy ⟨k, rfl, hk, hwy⟩; subst hwy) | (go_at_call 30; refine (law_frame k _ _ hk hpz).mono ?_; rintro _ wc ⟨fr, rfl, hfr, hbc⟩; have AC := A.below hbc; clear hbc a0 a1 a2 a3 a4; obtain ⟨a0, a1, a2, a3, a4⟩ := run_ask_cells AC; obtain ⟨fin, HF⟩ : ∃ fin, Hid (fin = feedC ((d.inn ++ fr).size + 1) d (d.inn ++ fr).data.toList) := ⟨_, rfl⟩; have HG := feedC_good ((d.inn ++ fr).size + 1) d (d.inn ++ fr).data.toList (by rw [Array.length_toList]; exact Nat.lt_succ_self _) D.ok D.st; rw [← HF.out] at HG; obtain ⟨fok, ffit, fsm, finn⟩ := HG; have hsz : d.inn.size + fr.size < 2000000 := (by omega)) | (go_at_call 28; refine (prog_Feed wc x d fr AC.dev.pd D.st D.ok (fun _ h => G.globX (below_two hb AC.two (Nat.le_refl _) hx hy) hx h) hsz).mono ?_; rw [← HF.out]; rintro _ w2 ⟨rfl, hd2, hg2⟩; obtain ⟨p2, o2, v2, t2⟩ := AC.prog hg2; clear a0 a1 a2 a3 a4; have a1 : w2.cell? ⟨w.heap.size, 1, none⟩ = some (.pointer (some ⟨y, 0, none⟩)) := p2.cell.trans rfl) | (go_at_call 29; have hrf := ref_FeedC hsum w2 y d fr v2 D.ok (fun _ h => by rw [D.sm]; exact G.summX (below_two hb t2 (Nat.le_refl _) hx hy) hy h) hsz; rw [feed_same, ← HF.out] at hrf; refine hrf.mono ?_; clear hrf; rintro _ w3 ⟨rfl, hd3, hg3⟩))
    go_ret
    exact ⟨rfl, fin.2, ⟨PdAny.grown hd2 hg3 hxy, hd3, fok, ffit, fsm.trans D.sm, finn⟩, t2.trans (.of2 hg3)⟩
  · have h50' : ¬ (50 : Int) < s.size := by omega
    have hpz : s.size ≤ 50 := by omega
    go_enter Tryz.func11, Tryz.ntmps11
    go_wp2_with (first | (refine wpList_boxM rfl 36 _ rfl cs rfl ?_; intro wb hr3 hb3; have A := ask_made D wb cs HC.out hr3 hb3; clear hr3 hb3; obtain ⟨a0, a1, a2, a3, a4⟩ := run_ask_cells A; go_simp) | (go_at_call 27; refine (hpk wb).mono ?_; rintro _ wy ⟨k, rfl, hk, hwy⟩; subst hwy) | (go_at_call 30; refine (law_frame k _ _ hk hpz).mono ?_; rintro _ wc ⟨fr, rfl, hfr, hbc⟩; have AC := A.below hbc; clear hbc a0 a1 a2 a3 a4; obtain ⟨a0, a1, a2, a3, a4⟩ := run_ask_cells AC; obtain ⟨fin, HF⟩ : ∃ fin, Hid (fin = feedC ((d.inn ++ fr).size + 1) d (d.inn ++ fr).data.toList) := ⟨_, rfl⟩; have HG := feedC_good ((d.inn ++ fr).size + 1) d (d.inn ++ fr).data.toList (by rw [Array.length_toList]; exact Nat.lt_succ_self _) D.ok D.st; rw [← HF.out] at HG; obtain ⟨fok, ffit, fsm, finn⟩ := HG; have hsz : d.inn.size + fr.size < 2000000 := (by omega)) | (go_at_call 28; refine (prog_Feed wc x d fr AC.dev.pd D.st D.ok (fun _ h => G.globX (below_two hb AC.two (Nat.le_refl _) hx hy) hx h) hsz).mono ?_; rw [← HF.out]; rintro _ w2 ⟨rfl, hd2, hg2⟩; obtain ⟨p2, o2, v2, t2⟩ := AC.prog hg2; clear a0 a1 a2 a3 a4; have a1 : w2.cell? ⟨w.heap.size, 1, none⟩ = some (.pointer (some ⟨y, 0, none⟩)) := p2.cell.trans rfl) | (go_at_call 29; have hrf := ref_FeedC hsum w2 y d fr v2 D.ok (fun _ h => by rw [D.sm]; exact G.summX (below_two hb t2 (Nat.le_refl _) hx hy) hy h) hsz; rw [feed_same, ← HF.out] at hrf; refine hrf.mono ?_; clear hrf; rintro _ w3 ⟨rfl, hd3, hg3⟩))
    go_ret
    exact ⟨rfl, fin.2, ⟨PdAny.grown hd2 hg3 hxy, hd3, fok, ffit, fsm.trans D.sm, finn⟩, t2.trans (.of2 hg3)⟩

/-- Feed, a whole frame, Flash -/
theorem law_asks (hsum : SumSaid sumSpecRef) (w1 w : World) (gs x y : Nat) (d : Dv) (kd wn n : Int) (s t : ByteArray) (rest : List Value) (G : Ground w1 gs) (hb : Below w1.heap.size w1 w) (D : DevAt w gs x y d) (hx : w1.heap.size ≤ x) (hy : w1.heap.size ≤ y) (hs : s.size ≤ 1500000) (hn0 : -9223372036854775808 ≤ n) (hn1 : n ≤ 9223372036854775807) (hk : kd = 5 ∨ kd = 6 ∨ kd = 7) :
    Calls Tryz.prog 11 #[.agg #[.pointer (some ⟨x, 0, none⟩), .pointer (some ⟨y, 0, none⟩)], .agg (opCells kd wn n s t rest).toArray] w (Asked gs x y w) := by
  rcases hk with rfl | rfl | rfl
  · exact law_ask5 hsum w1 w gs x y d wn n s t rest G hb D hx hy hs
  · exact law_ask6 hsum w1 w gs x y d wn n s t rest G hb D hx hy hn0 hn1
  · exact law_ask7 w gs x y d wn n s t rest D
end Go.Proofs.YtaokemapkgggoaaGreatDoor

namespace Go.Proofs.YtaokemapkgggoaaGreatDoor
open Go.RowKit

def pairCells (ps : List (Nat × Nat × Dv)) : List Value := ps.flatMap fun p => [.pointer (some ⟨p.1, 0, none⟩), .pointer (some ⟨p.2.1, 0, none⟩)]

/-- all devices between two steps -/
structure FedAt (w1 : World) (g gs : Nat) (ps : List (Nat × Nat × Dv)) (w : World) : Prop where
  base : Below w1.heap.size w1 w
  row : ∃ v, Row w g [.pointer (some ⟨gs, 0, none⟩), v] 30 ∧ w.ownsRow w1.heap.size 41 2 v ps.length (pairCells ps)
  dev : ∀ p ∈ ps, DevAt w gs p.1 p.2.1 p.2.2 ∧ w1.heap.size ≤ p.1 ∧ w1.heap.size ≤ p.2.1
  nx : ps.Pairwise (fun a b => a.1 ≠ b.1)
  ny : ps.Pairwise (fun a b => a.2.1 ≠ b.2.1)

theorem owns_below {w w' : World} {B : Nat} {e : TypeId} {k n : Nat} {v : Value} {xs : List Value} (h : w.ownsRow B e k v n xs) (hb : Below w.heap.size w w') : w'.ownsRow B e k v n xs :=
  h.kept (row := none) (grown_of_below none hb) (by cases hv : v.ownBlock with | none => exact .inl rfl | some _ => exact .inr (by simp))
theorem FedAt.below {w1 w w' : World} {g gs : Nat} {ps : List (Nat × Nat × Dv)} (F : FedAt w1 g gs ps w) (hb : Below w.heap.size w w') : FedAt w1 g gs ps w' := by
  obtain ⟨v, hr, ho⟩ := F.row
  exact ⟨F.base.trans (hb.mono F.base.size), ⟨v, hr.below hb hr.lt, owns_below ho hb⟩, fun p hp => ⟨(F.dev p hp).1.below hb, (F.dev p hp).2⟩, F.nx, F.ny⟩

theorem Two.own {g : Nat} {w w' : World} {r : Option Nat} (h : w.grownBy w' r) : Two g (r.getD g) w w' :=
  ⟨h.os, h.tape, h.output, h.size, fun k hk hx hy => h.block k hk (fun e => by rw [← e] at hy; exact hy rfl)⟩
theorem Two.set {x y o : Nat} {w : World} {v : Value} : Two x y w (w.setCell ⟨x, o, none⟩ v) := .of1 (grown_set (World.grownBy.refl _ _) o v)
theorem DevAt.keep {w w' : World} {gs x y a b : Nat} {d : Dv} (h : DevAt w gs x y d) (ht : Two a b w w') (h1 : x ≠ a) (h2 : x ≠ b) (h3 : y ≠ a) (h4 : y ≠ b) : DevAt w' gs x y d :=
  ⟨PdAny.twoE h.pd ht h1 h2, Row.twoE h.dv ht h3 h4, h.ok, h.st, h.sm, h.inn⟩
theorem owns_ne {w : World} {B b : Nat} {e t : TypeId} {k n : Nat} {v : Value} {xs cs : List Value} (h : w.ownsRow B e k v n xs) (hr : Row w b cs t) (ht : t ≠ e) : v.ownBlock ≠ some b := by
  rcases h.2 with ⟨hv, _⟩ | ⟨g, cap, cur, hv, _, hg, _⟩
  · rw [hv]; intro e'; cases e'
  · rw [hv]
    intro e'
    obtain rfl : g = b := Option.some.inj e'
    unfold Row at hr
    rw [hg] at hr
    simp only [Option.some.injEq, Obj.cells.injEq] at hr
    exact ht hr.2.1.symm
theorem owns_neP {w : World} {B b : Nat} {e : TypeId} {k n : Nat} {v : Value} {xs : List Value} {d : Dv} (h : w.ownsRow B e k v n xs) (hr : PdAny w b d) (ht : 100 ≠ e) : v.ownBlock ≠ some b := by
  obtain ⟨_, _, _, hr⟩ := hr.cells
  exact owns_ne h hr ht
theorem ne_getD {r : Option Nat} {b g : Nat} (h : r ≠ some b) (hg : b ≠ g) : b ≠ r.getD g := by
  cases r with
  | none => exact hg
  | some k => exact fun e => h (by rw [e]; rfl)

set_option maxRecDepth 100000 in
theorem law_add_none (g : Nat) (w : World) :
    Calls Tryz.prog 23 #[.pointer (some ⟨g, 0, none⟩), .pointer none, .int .i64 1, .pointer none, .int .i64 1] w fun r w' => r = .returned (.bool true) ∧ w' = w := by
  go_enter Tryz.func23, Tryz.ntmps23
  go_wp2_with (go_at_call 16; refine (law_num _ _).mono ?_; rintro _ _ ⟨rfl, rfl⟩)
  go_ret
  exact ⟨rfl, rfl⟩

theorem under_pairs : Tryz.prog.underlying 28 = some (.slice 41) := by kernel_rfl
def pairZero : Option Value → Bool
  | some z => decide (z.cells.size = 2)
  | none => false
def pairInfo : Option TypeInfo → Bool
  | some i => decide (i.size = 2 ∧ i.bytes = 16) && pairZero i.zero
  | none => false
theorem info_pair : pairInfo (Tryz.prog.info? 41) = true := by kernel_rfl
theorem info_pair_of {o : Option TypeInfo} (h : pairInfo o = true) : ∃ i z, o = some i ∧ i.zero = some z ∧ i.size = 2 ∧ i.bytes = 16 ∧ z.cells.size = 2 := by
  cases o with
  | none => cases h
  | some i =>
    simp only [pairInfo, Bool.and_eq_true, decide_eq_true_eq] at h
    cases hz : i.zero with
    | none => rw [hz] at h; exact absurd h.2 (by simp [pairZero])
    | some z =>
      rw [hz] at h
      simp only [pairZero, decide_eq_true_eq] at h
      exact ⟨i, z, rfl, hz, h.1.1, h.1.2, h.2⟩

set_option maxRecDepth 100000 in
set_option maxHeartbeats 1000000 in
theorem law_add_some (w1 w : World) (g gs : Nat) (ps : List (Nat × Nat × Dv)) (x y : Nat) (d : Dv) (hg : w1.heap.size ≤ g) (F : FedAt w1 g gs ps w) (D : DevAt w gs x y d) (hx : w1.heap.size ≤ x) (hy : w1.heap.size ≤ y) (hf : ∀ p ∈ ps, p.1 ≠ x ∧ p.2.1 ≠ y) (hl : ps.length < 1000) :
    Calls Tryz.prog 23 #[.pointer (some ⟨g, 0, none⟩), .pointer (some ⟨x, 0, none⟩), .int .i64 0, .pointer (some ⟨y, 0, none⟩), .int .i64 0] w fun r w' => r = .returned (.bool true) ∧ FedAt w1 g gs (ps ++ [(x, y, d)]) w' := by
  obtain ⟨i0, z0, hi, hz0, hz1, hz2, hz3⟩ := info_pair_of info_pair
  have HI : Hid _ := hi
  have HZ0 : Hid _ := hz0
  have HZ1 : Hid _ := hz1
  have HZ2 : Hid _ := hz2
  have HZ3 : Hid _ := hz3
  clear hi hz0 hz1 hz2 hz3
  obtain ⟨v, hr, ho⟩ := F.row
  have c1 : w.cell? ⟨g, 1, none⟩ = some v := hr.cell.trans rfl
  obtain ⟨ao, n', cap, hv⟩ : ∃ ao n' cap, v = .slice ao n' cap := by
    rcases ho.2 with ⟨hv, _⟩ | ⟨_, cap, cur, hv, _⟩
    · exact ⟨_, _, _, hv⟩
    · exact ⟨_, _, _, hv⟩
  subst hv
  have hfz := hr.frozen 1
  obtain ⟨wa, HWA⟩ : ∃ wa, Hid (wa = w.alloc (.cells #[.pointer (some ⟨x, 0, none⟩), .pointer (some ⟨y, 0, none⟩)] 41)) := ⟨_, rfl⟩
  have HBA : Hid (Below w.heap.size w wa) := by show Below _ _ _; rw [HWA.out]; exact (Below.refl _ _).alloc (Nat.le_refl _) _
  have HNA : Hid (Row wa w.heap.size [.pointer (some ⟨x, 0, none⟩), .pointer (some ⟨y, 0, none⟩)] 41) := by show Row _ _ _ _; rw [HWA.out]; exact Row.made w _ _
  go_enter Tryz.func23, Tryz.ntmps23
  go_wp2_with (first | (go_at_call 16; refine (law_num _ _).mono ?_; rintro _ wy ⟨rfl, hwy⟩; rw [hwy]; clear hwy wy) | (at_builtin; rw [← HWA.out]; refine wpList_append_own _ rfl _ _ 28 rfl w1.heap.size 41 i0 z0 2 16 under_pairs HI.out HZ0.out HZ1.out HZ2.out HZ3.out (by omega) _ ps.length (pairCells ps) rfl (owns_below ho HBA.out) ⟨w.heap.size, 0, none⟩ 1 1 [.pointer (some ⟨x, 0, none⟩), .pointer (some ⟨y, 0, none⟩)] rfl rfl ?c1 ?c2 ?c3 ?c4 ?c5 ?_))
  case c1 =>
    intro j u hu
    rw [Addr.add_mid, Nat.zero_add, HNA.out.cell]
    exact hu
  case c2 =>
    intro u hu
    simp only [List.mem_cons, List.not_mem_nil, or_false] at hu
    rcases hu with rfl | rfl <;> rfl
  case c3 => unfold maxLen; omega
  case c4 => omega
  case c5 => exact Nat.le_trans F.base.size HBA.out.size
  intro v' w2 hown hgrow hnil
  have hra := hr.below HBA.out hr.lt
  have hoa := owns_below ho HBA.out
  have hng := owns_ne hoa hra (by decide)
  have hr2 : Row w2 g [.pointer (some ⟨gs, 0, none⟩), .slice ao n' cap] 30 := Row.twoE hra (.own (g := w2.heap.size) hgrow) (by have := hra.lt; have := hgrow.size; omega) (ne_getD hng (by have := hra.lt; have := hgrow.size; omega))
  have d1 : w2.cell? ⟨g, 1, none⟩ = some (.slice ao n' cap) := hr2.cell.trans rfl
  have f1 := hr2.frozen 1
  obtain ⟨ao', m', cap', rfl⟩ : ∃ ao' m' cap', v' = .slice ao' m' cap' := by
    rcases hown.2 with ⟨hv, _⟩ | ⟨_, _, _, hv, _⟩
    · exact ⟨_, _, _, hv⟩
    · exact ⟨_, _, _, hv⟩
  go_wp2
  go_ret
  have ht : Two g ((Value.slice ao n' cap).ownBlock.getD g) wa (w2.setCell ⟨g, 1, none⟩ (.slice ao' m' cap')) := (Two.own hgrow).trans .set
  have hgv : w1.heap.size ≤ (Value.slice ao n' cap).ownBlock.getD g := by
    cases hb : (Value.slice ao n' cap).ownBlock with
    | none => exact hg
    | some k => exact (ho.lt k hb).1
  have hdev : ∀ a b e, DevAt w gs a b e → DevAt (w2.setCell ⟨g, 1, none⟩ (.slice ao' m' cap')) gs a b e := by
    intro a b e De
    have Da := De.below HBA.out
    have h1 := PdAny.neR Da.pd hra (by decide)
    have h2 := Row.ne Da.dv hra (by decide)
    exact Da.keep ht h1 (ne_getD (owns_neP hoa Da.pd (by decide)) h1) h2 (ne_getD (owns_ne hoa Da.dv (by decide)) h2)
  refine ⟨rfl, below_two (F.base.trans (HBA.out.mono F.base.size)) ht (Nat.le_refl _) hg hgv, ⟨_, hr2.setCell 1 (.slice ao' m' cap'), ?_⟩, ?_, ?_, ?_⟩
  · have e1 : (ps ++ [(x, y, d)]).length = ps.length + 1 := by simp
    have e2 : pairCells (ps ++ [(x, y, d)]) = pairCells ps ++ [.pointer (some ⟨x, 0, none⟩), .pointer (some ⟨y, 0, none⟩)] := by simp [pairCells]
    rw [e1, e2]
    exact ownsRow_setCell_other hown (owns_ne hown hr2 (by decide)) _
  · intro p hp
    rcases List.mem_append.1 hp with hp | hp
    · exact ⟨hdev _ _ _ (F.dev p hp).1, (F.dev p hp).2⟩
    · obtain rfl := List.mem_singleton.1 hp
      exact ⟨hdev _ _ _ D, hx, hy⟩
  · refine List.pairwise_append.2 ⟨F.nx, List.pairwise_singleton _ _, fun a ha b hb => ?_⟩
    obtain rfl := List.mem_singleton.1 hb
    exact (hf a ha).1
  · refine List.pairwise_append.2 ⟨F.ny, List.pairwise_singleton _ _, fun a ha b hb => ?_⟩
    obtain rfl := List.mem_singleton.1 hb
    exact (hf a ha).2
end Go.Proofs.YtaokemapkgggoaaGreatDoor

namespace Go.Proofs.YtaokemapkgggoaaGreatDoor
open Go.RowKit

theorem fresh_pd {w : World} {x : Nat} {p : ByteArray} (sm : Nat) (h2 : p.size ≤ 8) (h : Row w x (dcells ((turned (rawFirst (fieldB 9 p.data.toList))).set 0 167 ++ List.replicate 100 0) .none false ⟨#[]⟩) 100) : PdAt w x (Dv.fresh sm p) := by
  have e0 : Bs (Dv.fresh sm p).h0 = (Dv.fresh sm p).k.img := str_list _
  have e1 : Bs (Dv.fresh sm p).h1 = List.replicate 100 0 := (str_list _).trans rfl
  unfold PdAt
  rw [e0, e1]
  rw [show fieldB 9 p.data.toList = fieldB 9 (Bs p) from rfl, first_img p h2] at h
  exact h
theorem fresh_dev {w : World} {gs x y : Nat} {p : ByteArray} (h1 : 1 ≤ p.size) (h2 : p.size ≤ 8) (hp : PdAt w x (Dv.fresh gs p)) (hd : DvAt w y (Dv.fresh gs p)) : DevAt w gs x y (Dv.fresh gs p) :=
  ⟨.inl ⟨rfl, hp⟩, hd, fresh_sound gs p h1 h2, fresh_stands gs p h1 h2, rfl, by show (0 : Nat) < 52; omega⟩

/-- while a device is made -/
structure MadeAt (w1 w0 : World) (g gs : Nat) (ps : List (Nat × Nat × Dv)) (wn n : Int) (s t : ByteArray) (rest : List Value) (w : World) : Prop where
  fed : FedAt w1 g gs ps w
  op : Row w w0.heap.size (opCells 4 wn n s t rest) 36
  low : w0.heap.size ≤ w.heap.size
theorem MadeAt.below {w1 w0 w w' : World} {g gs : Nat} {ps : List (Nat × Nat × Dv)} {wn n : Int} {s t : ByteArray} {rest : List Value} (M : MadeAt w1 w0 g gs ps wn n s t rest w) (hb : Below w.heap.size w w') : MadeAt w1 w0 g gs ps wn n s t rest w' :=
  ⟨M.fed.below hb, M.op.below hb M.op.lt, Nat.le_trans M.low hb.size⟩
theorem MadeAt.cells {w1 w0 w : World} {g gs : Nat} {ps : List (Nat × Nat × Dv)} {wn n : Int} {s t : ByteArray} {rest : List Value} (M : MadeAt w1 w0 g gs ps wn n s t rest w) :
    w.cell? ⟨w0.heap.size, 0, none⟩ = some (.int .i64 4) ∧ w.cell? ⟨w0.heap.size, 3, none⟩ = some (.string s) ∧ w.cell? ⟨g, 0, none⟩ = some (.pointer (some ⟨gs, 0, none⟩)) :=
  ⟨M.op.cell.trans rfl, M.op.cell.trans rfl, by obtain ⟨v, hr, _⟩ := M.fed.row; exact hr.cell.trans rfl⟩

set_option maxRecDepth 100000 in
set_option maxHeartbeats 1000000 in
theorem law_made (w1 w : World) (g gs : Nat) (ps : List (Nat × Nat × Dv)) (wn n : Int) (s t : ByteArray) (rest : List Value) (hg : w1.heap.size ≤ g) (F : FedAt w1 g gs ps w) (hs : s.size ≤ 1500000) (hl : ps.length < 1000) :
    Calls Tryz.prog 9 #[.pointer (some ⟨g, 0, none⟩), .agg (opCells 4 wn n s t rest).toArray] w fun r w' => r = .returned (.bool true) ∧ ∃ qs, FedAt w1 g gs (ps ++ qs) w' ∧ qs.length = (if s.size < 1 ∨ 8 < s.size then 0 else 1) := by
  obtain ⟨cs, HC⟩ : ∃ cs, Hid (cs = opCells 4 wn n s t rest) := ⟨_, rfl⟩
  rw [← HC.out]
  have hmk : ∀ wb, Row wb w.heap.size cs 36 → Below w.heap.size w wb → MadeAt w1 w g gs ps wn n s t rest wb := fun wb h1 h2 => ⟨F.below h2, by rw [← HC.out]; exact h1, h2.size⟩
  by_cases h1 : s.size < 1 ∨ 8 < s.size
  · rw [if_pos h1]
    go_enter Tryz.func9, Tryz.ntmps9
    go_wp2_with (first | (refine wpList_boxM rfl 36 _ rfl cs rfl ?_; intro wb hr3 hb3; have M := hmk wb hr3 hb3; clear hr3 hb3; obtain ⟨a0, a3, a1⟩ := M.cells; go_simp) | (go_at_call 21; refine (prog_New_no _ s h1).mono ?_; rintro _ w2 ⟨rfl, hb2⟩; have M2 := M.below hb2; clear hb2 a0 a3 a1; obtain ⟨a0, a3, a1⟩ := M2.cells))
    go_region_with (go_at_call 22; refine (ref_New_no gs s _ h1 (by omega)).mono ?_; rintro _ wy ⟨rfl, hwy⟩; rw [hwy]; clear hwy wy)
    all_goals
      go_wp2_with (go_at_call 23; refine (law_add_none g _).mono ?_; rintro _ wy ⟨rfl, hwy⟩; rw [hwy]; clear hwy wy)
      go_ret
      exact ⟨rfl, [], by rw [List.append_nil]; exact (M2.below (Below.refl _ _).drew).fed, rfl⟩
  · rw [if_neg h1]
    have h1a : 1 ≤ s.size := by omega
    have h1b : s.size ≤ 8 := by omega
    go_enter Tryz.func9, Tryz.ntmps9
    go_wp2_with (first | (refine wpList_boxM rfl 36 _ rfl cs rfl ?_; intro wb hr3 hb3; have M := hmk wb hr3 hb3; clear hr3 hb3; obtain ⟨a0, a3, a1⟩ := M.cells; go_simp) | (go_at_call 21; refine (prog_New_yes _ s h1a h1b).mono ?_; rintro _ w2 ⟨x, rfl, hx2, hr2, hb2⟩; have hp2 := fresh_pd gs h1b hr2; have M2 := M.below hb2; clear hr2 a0 a3 a1; obtain ⟨a0, a3, a1⟩ := M2.cells))
    go_region_with (go_at_call 22; refine (ref_New_yes gs s _ h1a h1b).mono ?_; rintro _ w3 ⟨y, hy3, rfl, hd3, hb3⟩; have M3 := M2.below (((Below.refl _ _).drew).trans hb3); have hp3 : PdAt w3 x (Dv.fresh gs s) := Row.below hp2 (((Below.refl _ _).drew).trans hb3) hp2.lt; have D3 := fresh_dev h1a h1b hp3 hd3; have hyy : w2.heap.size ≤ y := hy3)
    all_goals
      go_wp2_with (go_at_call 23; refine (law_add_some w1 w3 g gs ps x y (Dv.fresh gs s) hg M3.fed D3 ?c1 ?c2 ?c3 hl).mono ?_; (case c1 => (have := M.fed.base.size; omega)); (case c2 => (have := M2.fed.base.size; omega)); (case c3 => (intro p hp; have hq := ((M.fed.dev p hp).1); have hl1 := hq.pd.lt; have hl2 := Row.lt hq.dv; have hbs := hb2.size; exact ⟨by omega, by omega⟩)); rintro _ w4 ⟨rfl, F4⟩)
      go_ret
      exact ⟨rfl, _, F4, rfl⟩
end Go.Proofs.YtaokemapkgggoaaGreatDoor
