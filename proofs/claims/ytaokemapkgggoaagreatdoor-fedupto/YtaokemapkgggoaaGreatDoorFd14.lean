import Derived.Test.YtaokemapkgggoaaGreatDoorFd13
import Derived.Laws.Cover3
import Derived.Test.YtaokemapkgggoaaGreatDoorFd12
import Derived.Deep.RegionHeld3
namespace Go.Proofs.YtaokemapkgggoaaGreatDoor
open Go.RowKit

/-- a byte of a list, as a number -/
def bAt (l : List UInt8) (i : Nat) : Int := (bytesI l).getD i 0
theorem bAt_B (l : List UInt8) (i : Nat) : 0 ≤ bAt l i ∧ bAt l i < 256 := getD_isB (bytesI_B l) i
theorem bcells_get (l : List UInt8) (i : Nat) (h : i < l.length) : (bcells l)[i]? = some (.int .u8 (bAt l i)) := by
  rw [bcells_eq, u8s_get _ _ (by simpa [bytesI] using h)]; rfl
theorem bcells_length (l : List UInt8) : (bcells l).length = l.length := by simp [bcells]
theorem range_byte {w : World} {g o : Nat} {l : List UInt8} (h : w.rangeAt g o (bcells l)) (i : Nat) (hi : i < l.length) : w.cell? ⟨g, o + i, none⟩ = some (.int .u8 (bAt l i)) := h i _ (bcells_get l i hi)
theorem range_sub {w : World} {g o : Nat} {l : List UInt8} (h : w.rangeAt g o (bcells l)) (a n : Nat) : w.rangeAt g (o + a) (bcells ((l.drop a).take n)) := by
  intro j v hv
  have hj : j < ((l.drop a).take n).length := by
    have := (List.getElem?_eq_some_iff.1 hv).1
    rwa [bcells_length] at this
  rw [Nat.add_assoc]
  refine h (a + j) v ?_
  rw [← hv]
  simp only [bcells, List.getElem?_map, List.getElem?_take, List.getElem?_drop]
  rw [List.length_take, List.length_drop] at hj
  rw [if_pos (by omega)]

set_option maxRecDepth 100000 in
set_option maxHeartbeats 400000 in
theorem prog_checkB (w : World) (g o n c : Nat) (l : List UInt8) (hR : w.rangeAt g o (bcells l)) (hl : l.length = n) (hn : n ≤ 100000) :
    Calls Tryz.prog 93 #[.slice (some ⟨g, o, none⟩) n c] w fun r w' => r = .returned (.int .u8 ((1 + sumB l) % 256)) ∧ w' = w := by
  have HL : Hid (l.length = n) := hl
  clear hl
  go_enter Tryz.func93, Tryz.ntmps93
  go_wp2
  go_loopw [3, 7] (fun sv c wr => ∃ i : Nat, i ≤ n ∧ c = .int .i64 i ∧ sv = .int .u8 ((1 + sumB (l.take i)) % 256) ∧ wr = w) (fun _ c _ => n - (intOf c).toNat)
  case atStart => exact ⟨0, by omega, rfl, by simp [sumB], rfl⟩
  case round =>
    obtain ⟨i, hi, rfl, rfl, rfl⟩ := hrel
    by_cases hlt : i < n
    · have hc := range_byte hR i (by rw [HL.out]; exact hlt)
      have HS : Hid (sumB (l.take (i + 1)) = sumB (l.take i) + bAt l i) := sumB_take_succ l i (by rw [HL.out]; exact hlt)
      obtain ⟨hb0, hb1⟩ := bAt_B l i
      generalize bAt l i = x at *
      generalize sumB (l.take i) = sm at *
      have hlt' : (i : Int) < n := by omega
      go_wp2
      refine ⟨⟨i + 1, by omega, by go_num, ?_, trivial⟩, by simp [intOf]; omega⟩
      rw [HS.out]
      congr 1
      omega
    · have e : l.take i = l := List.take_of_length_le (by rw [HL.out]; omega)
      rw [e]
      have hlt' : ¬ (i : Int) < n := by omega
      go_wp2
      go_ret
      exact ⟨rfl, rfl⟩

set_option maxRecDepth 100000 in
set_option maxHeartbeats 400000 in
theorem prog_checkS (w : World) (s : ByteArray) (hn : s.size ≤ 100000000) :
    Calls Tryz.prog 91 #[.string s] w fun r w' => r = .returned (.int .u8 ((1 + sumB s.data.toList) % 256)) ∧ w' = w := by
  have HL : Hid (s.data.toList.length = s.size) := by show _ = _; rw [Array.length_toList]; rfl
  go_enter Tryz.func91, Tryz.ntmps91
  go_wp2
  go_loopw [3, 7] (fun sv c wr => ∃ i : Nat, i ≤ s.size ∧ c = .int .i64 i ∧ sv = .int .u8 ((1 + sumB (s.data.toList.take i)) % 256) ∧ wr = w) (fun _ c _ => s.size - (intOf c).toNat)
  case atStart => exact ⟨0, by omega, rfl, by simp [sumB], rfl⟩
  case round =>
    obtain ⟨i, hi, rfl, rfl, rfl⟩ := hrel
    by_cases hlt : i < s.size
    · have hc := byte_at hlt
      have HS : Hid (sumB (s.data.toList.take (i + 1)) = sumB (s.data.toList.take i) + bAt s.data.toList i) := sumB_take_succ s.data.toList i (by rw [HL.out]; exact hlt)
      obtain ⟨hb0, hb1⟩ := bAt_B s.data.toList i
      change _ = bAt s.data.toList i at hc
      generalize bAt s.data.toList i = x at *
      generalize sumB (s.data.toList.take i) = sm at *
      have hlt' : (i : Int) < s.size := by omega
      go_wp2
      refine ⟨⟨i + 1, by omega, by go_num, ?_, trivial⟩, by simp [intOf]; omega⟩
      rw [HS.out]
      congr 1
      omega
    · have e : s.data.toList.take i = s.data.toList := List.take_of_length_le (by rw [HL.out]; omega)
      rw [e]
      have hlt' : ¬ (i : Int) < s.size := by omega
      go_wp2
      go_ret
      exact ⟨rfl, rfl⟩

/-- an image in memory: 100 bytes from place o on -/
structure ImgAt (w : World) (g o : Nat) (l : List UInt8) : Prop where
  len : l.length = 100
  at_ : w.rangeAt g o (bcells l)
theorem ImgAt.b {w : World} {g o : Nat} {l : List UInt8} (h : ImgAt w g o l) (i : Nat) (hi : i < 100) : w.cell? ⟨g, o + i, none⟩ = some (.int .u8 (bAt l i)) := range_byte h.at_ i (by rw [h.len]; exact hi)
def numOf (l : List UInt8) : Int := word4 (bAt l 1) (bAt l 2) (bAt l 3) (bAt l 4)
theorem numOf_w (l : List UInt8) : isW (numOf l) := word4_w (bAt_B l 1) (bAt_B l 2) (bAt_B l 3) (bAt_B l 4)

set_option maxRecDepth 100000 in
set_option maxHeartbeats 400000 in
theorem prog_number (w : World) (g o : Nat) (l : List UInt8) (h : ImgAt w g o l) :
    Calls Tryz.prog 74 #[.pointer (some ⟨g, o, none⟩)] w fun r w' => r = .returned (.int .u32 (numOf l)) ∧ ∃ n, w' = w.drewN n := by
  have c1 := h.b 1 (by omega)
  have c2 := h.b 2 (by omega)
  have c3 := h.b 3 (by omega)
  have c4 := h.b 4 (by omega)
  have p1 := bAt_B l 1
  have p2 := bAt_B l 2
  have p3 := bAt_B l 3
  have p4 := bAt_B l 4
  have HN : Hid (numOf l = word4 (bAt l 1) (bAt l 2) (bAt l 3) (bAt l 4)) := rfl
  clear h
  generalize bAt l 1 = x1 at *
  generalize bAt l 2 = x2 at *
  generalize bAt l 3 = x3 at *
  generalize bAt l 4 = x4 at *
  generalize numOf l = nn at *
  go_enter Tryz.func74, Tryz.ntmps74
  go_wp2
  go_quiet ((go_at_call 69; exact Calls.quiet_of_same (prog_word _ _ _ _ _ p1 p2 p3 p4)))
  go_wp2
  go_ret
  exact ⟨ret_int HN.out.symm, _, rfl⟩

theorem under_img : Tryz.prog.underlying 93 = some (.array 100 5) := by kernel_rfl
theorem under_pin : Tryz.prog.underlying 89 = some (.array 9 5) := by kernel_rfl
theorem under_flash : Tryz.prog.underlying 96 = some (.array 2 93) := by kernel_rfl

/-- the check of an image -/
def chkOf (l : List UInt8) : Int := (1 + sumB ((l.drop 1).take 98)) % 256

set_option maxRecDepth 100000 in
set_option maxHeartbeats 400000 in
theorem prog_check (w : World) (g o : Nat) (l : List UInt8) (h : ImgAt w g o l) :
    Calls Tryz.prog 88 #[.pointer (some ⟨g, o, none⟩)] w fun r w' => r = .returned (.int .u8 (chkOf l)) ∧ w' = w := by
  have hsl := fun wx => run_sliceArr2 (P := Tryz.prog) wx 93 5 100 under_img size_byte g o 1 99 (by omega) (by omega) (by omega) 1 99 rfl rfl
  have hr := range_sub h.at_ 1 98
  have hlen : Hid (((l.drop 1).take 98).length = 98) := by show _ = _; rw [List.length_take, List.length_drop, h.len]; rfl
  clear h
  go_enter Tryz.func88, Tryz.ntmps88
  go_wp2_with (go_at_call 93; refine (prog_checkB w g (o + 1) 98 99 _ hr hlen.out (by omega)).mono ?_; rintro _ w9 ⟨rfl, e9⟩; rw [e9]; clear e9 w9; rw [show (1 + sumB ((l.drop 1).take 98)) % 256 = chkOf l from rfl])
  go_ret
  exact ⟨rfl, rfl⟩

set_option maxRecDepth 100000 in
set_option maxHeartbeats 400000 in
theorem prog_worn (w : World) (g o : Nat) (l : List UInt8) (h : ImgAt w g o l) :
    Calls Tryz.prog 110 #[.pointer (some ⟨g, o, none⟩)] w fun r w' => r = .returned (.bool (decide (numOf l = 4294967295))) ∧ ∃ n, w' = w.drewN n := by
  go_enter Tryz.func110, Tryz.ntmps110
  go_wp2_with (go_at_call 74; refine (prog_number w g o l h).mono ?_; rintro _ w9 ⟨rfl, n9, e9⟩; rw [e9]; clear e9 w9)
  go_ret
  exact ⟨rfl, _, rfl⟩

set_option maxRecDepth 100000 in
set_option maxHeartbeats 400000 in
theorem prog_pin (w : World) (g o : Nat) :
    Calls Tryz.prog 71 #[.pointer (some ⟨g, o, none⟩)] w fun r w' => r = .returned (.pointer (some ⟨g, o + 6, none⟩)) ∧ w' = w := by
  have hsl := fun wx => run_sliceArr2 (P := Tryz.prog) wx 93 5 100 under_img size_byte g o 6 15 (by omega) (by omega) (by omega) 6 15 rfl rfl
  have har := fun wx => run_arrayAt (P := Tryz.prog) (w := wx) 89 5 9 (some ⟨g, o + 6, none⟩) 9 94 under_pin (Nat.le_refl _)
  go_enter Tryz.func71, Tryz.ntmps71
  go_wp2
  go_ret
  exact ⟨rfl, rfl⟩

set_option maxRecDepth 100000 in
set_option maxHeartbeats 400000 in
theorem prog_key (w : World) (g o i : Nat) (hi : i < 4) :
    Calls Tryz.prog 97 #[.pointer (some ⟨g, o, none⟩), .int .i64 i] w fun r w' => r = .returned (.pointer (some ⟨g, o + (15 + 21 * i), none⟩)) ∧ w' = w := by
  have hsl := fun wx => run_sliceArr2 (P := Tryz.prog) wx 93 5 100 under_img size_byte g o (15 + 21 * i) (15 + 21 * i + 21) (by omega) (by omega) (by omega) (15 + (i : Int) * 21) (15 + (i : Int) * 21 + 21) (by omega) (by omega)
  rw [show 15 + 21 * i + 21 - (15 + 21 * i) = 21 by omega] at hsl
  have har := fun wx => run_arrayAt (P := Tryz.prog) (w := wx) 79 5 21 (some ⟨g, o + (15 + 21 * i), none⟩) 21 (100 - (15 + 21 * i)) under21b (Nat.le_refl _)
  have w1 : IntKind.i64.wrap ((i : Int) * 21) = (i : Int) * 21 := wrap_id _ (by omega) (by omega)
  have w2 : IntKind.i64.wrap (15 + (i : Int) * 21) = 15 + (i : Int) * 21 := wrap_id _ (by omega) (by omega)
  have w3 : IntKind.i64.wrap (15 + (i : Int) * 21 + 21) = 15 + (i : Int) * 21 + 21 := wrap_id _ (by omega) (by omega)
  go_enter Tryz.func97, Tryz.ntmps97
  go_wp2
  go_ret
  exact ⟨rfl, rfl⟩
end Go.Proofs.YtaokemapkgggoaaGreatDoor

namespace Go.Proofs.YtaokemapkgggoaaGreatDoor
open Go.RowKit

theorem law_num (e : Int) (w : World) : Calls Tryz.prog 16 #[.int .i64 e] w fun r w' => r = .returned (.int .i64 e) ∧ w' = w := by
  go_enter Tryz.func16, Tryz.ntmps16
  go_wp2
  go_ret
  exact ⟨rfl, rfl⟩

theorem wpList_boxM {P : Program} {ops : Array Oper} {rest : List Oper} {o : Oper} {a : Act} {w : World} {Q : Exit → Act → World → Prop} (hgd : o.guard = none) (ty : TypeId) (x : Operand) (ho : o.op = .box ty x) (cs : List Value) (hx : a.eval x = .agg cs.toArray)
    (h : ∀ w', Row w' w.heap.size cs ty → Below w.heap.size w w' → wpList P ops Q rest (a.put o.dst (.pointer (some ⟨w.heap.size, 0, none⟩))) w') : wpList P ops Q (o :: rest) a w :=
  wpList_boxR hgd ty x ho cs hx (h _ (Row.made _ _ _) ((Below.refl _ _).alloc (Nat.le_refl _) _))

/-- a step's cells: kind, device, number, two texts, and what no sum looks at -/
def opCells (kd wn n : Int) (s t : ByteArray) (rest : List Value) : List Value := .int .i64 kd :: .int .i64 wn :: .int .i64 n :: .string s :: .string t :: rest

/-- what lies in memory while a step of sums is played: the step's copy, the pointer to what reckons, what it reckons with -/
structure LawAt (w0 : World) (g gs : Nat) (kd wn n : Int) (s t : ByteArray) (rest : List Value) (w : World) : Prop where
  row : Row w w0.heap.size (opCells kd wn n s t rest) 36
  ptr : w.cell? ⟨g, 0, none⟩ = some (.pointer (some ⟨gs, 0, none⟩))
  summ : Summ w gs
  glob : Glob w
  below : Below w0.heap.size w0 w
  lt : w0.heap.size < w.heap.size
theorem LawAt.next {w0 : World} {g gs : Nat} {kd wn n : Int} {s t : ByteArray} {rest : List Value} {w w' : World} (h : LawAt w0 g gs kd wn n s t rest w) (hb : Below w.heap.size w w') : LawAt w0 g gs kd wn n s t rest w' :=
  ⟨h.row.below hb h.lt, (hb.cell (p := ⟨g, 0, none⟩) (World.block_lt_of_cell? _ _ h.ptr)).trans h.ptr, h.summ.below hb (Nat.le_refl _), h.glob.below hb (Nat.le_refl _), h.below.trans (hb.mono (Nat.le_of_lt h.lt)), Nat.lt_of_lt_of_le h.lt hb.size⟩
theorem LawAt.cells {w0 : World} {g gs : Nat} {kd wn n : Int} {s t : ByteArray} {rest : List Value} {w : World} (h : LawAt w0 g gs kd wn n s t rest w) :
    w.cell? ⟨w0.heap.size, 0, none⟩ = some (.int .i64 kd) ∧ w.cell? ⟨w0.heap.size, 2, none⟩ = some (.int .i64 n) ∧ w.cell? ⟨w0.heap.size, 3, none⟩ = some (.string s) ∧ w.cell? ⟨w0.heap.size, 4, none⟩ = some (.string t) :=
  ⟨h.row.cell.trans rfl, h.row.cell.trans rfl, h.row.cell.trans rfl, h.row.cell.trans rfl⟩
theorem LawAt.drew {w0 : World} {g gs : Nat} {kd wn n : Int} {s t : ByteArray} {rest : List Value} {w : World} (h : LawAt w0 g gs kd wn n s t rest w) : LawAt w0 g gs kd wn n s t rest w.drew := h.next (Below.refl _ _).drew

/-- what a comparison leans on -/
abbrev Held (w0 : World) (g gs : Nat) (kd wn n : Int) (s t : ByteArray) (rest : List Value) (g5 : Nat) (ov : List Int) (w : World) : Prop :=
  w.rangeAt g5 0 (u8s ov) ∧ w.cell? ⟨g, 0, none⟩ = some (.pointer (some ⟨gs, 0, none⟩)) ∧ w.cell? ⟨w0.heap.size, 3, none⟩ = some (.string s) ∧ w.cell? ⟨w0.heap.size, 4, none⟩ = some (.string t) ∧ LawAt w0 g gs kd wn n s t rest w ∧ g5 < w.heap.size
theorem Held.next {w0 : World} {g gs : Nat} {kd wn n : Int} {s t : ByteArray} {rest : List Value} {g5 : Nat} {ov : List Int} {w w' : World} (h : Held w0 g gs kd wn n s t rest g5 ov w) (hb : Below w.heap.size w w') : Held w0 g gs kd wn n s t rest g5 ov w' :=
  have L := h.2.2.2.2.1.next hb
  ⟨range_below h.1 hb h.2.2.2.2.2, L.ptr, L.cells.2.2.1, L.cells.2.2.2, L, Nat.lt_of_lt_of_le h.2.2.2.2.2 hb.size⟩

set_option maxRecDepth 100000 in
set_option maxHeartbeats 2000000 in
theorem law_sums1 (hsum : SumSaid sumSpecRef) (wn n : Int) (s t : ByteArray) (rest : List Value) (g gs : Nat) (w : World) (hp : w.cell? ⟨g, 0, none⟩ = some (.pointer (some ⟨gs, 0, none⟩))) (hS : Summ w gs) (hG : Glob w) :
    Calls Tryz.prog 8 #[.pointer (some ⟨g, 0, none⟩), .agg (opCells 1 wn n s t rest).toArray] w fun r w' => r = .returned (.bool true) ∧ Below w.heap.size w w' := by
  obtain ⟨ov, HO⟩ : ∃ ov, Hid (ov = sumSpec K0 H0 0 s.data.toList) := ⟨_, rfl⟩
  have hol : Hid ((u8s ov).length = 32) := by show _ = _; rw [u8s_length, HO.out]; exact sumSpec_length H0 W8_H0 _ _
  obtain ⟨cs, HC⟩ : ∃ cs, Hid (cs = opCells 1 wn n s t rest) := ⟨_, rfl⟩
  rw [← HC.out]
  by_cases hs : s.size ≤ 400
  · have hs' : ¬ (400 : Int) < s.size := by omega
    go_enter Tryz.func8, Tryz.ntmps8
    go_wp2_with (first | (refine wpList_boxM rfl 36 _ rfl cs rfl ?_; intro w1 hr hb; have L1 : LawAt w g gs 1 wn n s t rest w1 := ⟨by rw [← HC.out]; exact hr, (hb.cell (p := ⟨g, 0, none⟩) (World.block_lt_of_cell? _ _ hp)).trans hp, hS.below hb (Nat.le_refl _), hG.below hb (Nat.le_refl _), hb, hr.lt⟩; clear hr hb; obtain ⟨a0, a2, a3, a4⟩ := L1.cells; go_simp) | (go_at_call 13; refine (prog_Sum s _ L1.glob (by omega)).mono ?_; rintro _ w2 ⟨rfl, hb2⟩; rw [← HO.out]; have L2 := L1.next hb2; clear hb2 a0 a2 a3 a4; obtain ⟨a0, a2, a3, a4⟩ := L2.cells) | (refine wpList_allocR rfl 47 rfl 32 (.int .u8 0) arr32b ?_; go_simp) | (refine wpList_storeMA rfl 47 _ _ rfl _ rfl rfl (u8s ov) rfl 47 _ 32 (.int .u8 0) arr32b hol.out (zrow_length _ _) (u8s_one _) ?_; intro w3 hr5 hb3; have L3 := L2.next hb3; clear hb3 a0 a2 a3 a4; obtain ⟨a0, a2, a3, a4⟩ := L3.cells; go_simp))
    have hS0 : Held w g gs 1 wn n s t rest w2.heap.size ov w3 := ⟨hr5.range, L3.ptr, a3, a4, L3, hr5.lt⟩
    have hconv : ∀ w', w'.rangeAt w2.heap.size 0 (u8s ov) → (convert 49 9 (.slice (some ⟨w2.heap.size, 0, none⟩) 32 32)).run Tryz.prog w' = .ok (.string (strOfNums ov)) w' := fun w' h => run_convR w' _ ov 32 32 (by rw [← u8s_length]; exact hol.out) h
    have HR : Hid (sumSpecRef s.data.toList = ov) := by show _ = _; rw [HO.out, sumSpecRef_eq]
    clear hr5 a0 a2 a3 a4 L1 L2 L3
    go_region_held3 (Held w g gs 1 wn n s t rest w2.heap.size ov) (first | exact Held.next hS0 (Below.refl _ _).drew | exact Held.next (by assumption) hbx) (first | (go_at_call 14; refine (hsum s gs _ ?_ (by omega)).mono ?_; (go_split_ands; exact LawAt.summ (by assumption)); rintro _ wx ⟨rfl, hbx⟩; rw [HR.out]))
    go_wp2
    go_ret
    exact ⟨rfl, (Held.next (Held.next hS0 (Below.refl _ _).drew) hbx).2.2.2.2.1.below⟩
  · have hs' : (400 : Int) < s.size := by omega
    go_enter Tryz.func8, Tryz.ntmps8
    go_wp2_with (first | (refine wpList_boxM rfl 36 _ rfl cs rfl ?_; intro w1 hr hb; have L1 : LawAt w g gs 1 wn n s t rest w1 := ⟨by rw [← HC.out]; exact hr, (hb.cell (p := ⟨g, 0, none⟩) (World.block_lt_of_cell? _ _ hp)).trans hp, hS.below hb (Nat.le_refl _), hG.below hb (Nat.le_refl _), hb, hr.lt⟩; clear hr hb; obtain ⟨a0, a2, a3, a4⟩ := L1.cells; go_simp))
    go_ret
    exact ⟨rfl, L1.below⟩
end Go.Proofs.YtaokemapkgggoaaGreatDoor
