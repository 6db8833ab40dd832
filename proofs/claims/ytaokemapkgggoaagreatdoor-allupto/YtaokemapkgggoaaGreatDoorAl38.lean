import Derived.Test.YtaokemapkgggoaaGreatDoorAl21
import Derived.Lib.Builder
import Derived.Laws.Externs
import Derived.Shelf.Strings.Builder1
import Derived.Shelf.LaysM
import Derived.Shelf.Strconv.Clone
import Derived.Test.YtaokemapkgggoaaGreatDoorAl37
namespace Go.Proofs.YtaokemapkgggoaaGreatDoor
open Go.RowKit

theorem size_builder : (Tryz.prog.info? 130).map (·.size) = some 2 := by kernel_rfl
theorem lies_builder : liesAt Tryz.prog Tryz.prog.depth 130 (2 / Tryz.prog.cellsOf 130) 0 130 1 = true := by kernel_rfl
theorem under_pb : Tryz.prog.underlying 128 = some (.pointer 130) := by kernel_rfl
theorem under_up : Tryz.prog.underlying 157 = some .unsafePointer := by kernel_rfl

theorem run_noEscape (w : World) (x : Value) : (callFunc 98 #[x]).run Tryz.prog w = .ok (.value x) w := by
  rw [run_callFunc_extern Tryz.func98 (by kernel_rfl) (by kernel_rfl) (by kernel_rfl) (e := Extern.AbiNoEscape.same) (by kernel_rfl), Lib.run_noEscape]
  rfl

set_option maxRecDepth 100000 in
set_option maxHeartbeats 1000000 in
theorem prog_copyCheck_used (b : Nat) (w : World) (h0 : w.cell? ⟨b, 0, none⟩ = some (.pointer (some ⟨b, 0, none⟩))) :
    Calls Tryz.prog 92 #[.pointer (some ⟨b, 0, none⟩)] w fun e w' => e = .returned (.tuple #[]) ∧ w' = w := by
  obtain ⟨j, hj, _⟩ := Option.map_eq_some_iff.1 size_builder
  have hne := Lib.run_neq_ptr_same w ⟨b, 0, none⟩ under_pb hj
  clear hj
  go_enter Tryz.func92, Tryz.ntmps92
  go_wp2
  go_end0
  exact ⟨rfl, rfl⟩

set_option maxRecDepth 100000 in
set_option maxHeartbeats 1000000 in
theorem prog_copyCheck_fresh (b : Nat) (w : World) (h0 : w.cell? ⟨b, 0, none⟩ = some (.pointer none)) (hsh : w.shape? b = some (130, 2)) (hfz : w.frozen? ⟨b, 0, none⟩ = false) :
    Calls Tryz.prog 92 #[.pointer (some ⟨b, 0, none⟩)] w fun e w' => e = .returned (.tuple #[]) ∧ w' = w.setCell ⟨b, 0, none⟩ (.pointer (some ⟨b, 0, none⟩)) := by
  obtain ⟨j, hj, hjs⟩ := Option.map_eq_some_iff.1 size_builder
  have hne := Lib.run_neq_ptr_same (w.setCell ⟨b, 0, none⟩ (.pointer (some ⟨b, 0, none⟩))) ⟨b, 0, none⟩ under_pb hj
  have hto := Lib.run_to_unsafe w ⟨b, 0, none⟩ under_pb under_up hj (by rw [hjs]; decide) hsh (Nat.zero_lt_succ 1)
  have hfrom := Lib.run_from_unsafe w ⟨b, 0, none⟩ under_up under_pb hj hsh lies_builder
  clear hj
  have hex := run_noEscape w (.pointer (some ⟨b, 0, none⟩))
  go_enter Tryz.func92, Tryz.ntmps92
  go_wp2
  go_end0
  exact ⟨rfl, rfl⟩

theorem prog_copyCheck (B b : Nat) (bs : List Value) (w : World) (h : Lib.IsBuilder 130 5 B b bs w) :
    Calls Tryz.prog 92 #[.pointer (some ⟨b, 0, none⟩)] w fun e w' => e = .returned (.tuple #[]) ∧ Lib.BuilderAt 130 5 B b (.pointer (some ⟨b, 0, none⟩)) bs w' ∧ Below B w w' := by
  rcases h with h | h
  · refine (prog_copyCheck_fresh b w h.cell0 h.shape h.frozen0).mono ?_
    rintro e w' ⟨rfl, rfl⟩
    exact ⟨rfl, h.used _, (Below.refl B w).setCell (p := ⟨b, 0, none⟩) h.1 _⟩
  · refine (prog_copyCheck_used b w h.cell0).mono ?_
    rintro e w' ⟨rfl, rfl⟩
    exact ⟨rfl, h, Below.refl B _⟩

set_option maxRecDepth 100000 in
set_option maxHeartbeats 1000000 in
theorem prog_WriteString (B b : Nat) (bs : List Value) (s : ByteArray) (w : World) (h : Lib.IsBuilder 130 5 B b bs w) (hlen : bs.length + s.size ≤ 1000000000) (hBw : B ≤ w.heap.size) :
    Calls Tryz.prog 76 #[.pointer (some ⟨b, 0, none⟩), .string s] w fun e w' => e = .returned (.tuple #[.int .i64 s.size, .nilIface]) ∧ Lib.BuilderAt 130 5 B b (.pointer (some ⟨b, 0, none⟩)) (bs ++ Lib.strCells s) w' ∧ Below B w w' := by
  obtain ⟨i0, hi, hz0, hz1, hz2⟩ := info_parts slB.i
  have HI : Hid _ := hi
  have HZ0 : Hid _ := hz0
  have HZ1 : Hid _ := hz1
  have HZ2 : Hid _ := hz2
  clear hi hz0 hz1 hz2
  go_enter Tryz.func76, Tryz.ntmps76
  go_wp2_with (go_at_call 92; refine (prog_copyCheck B b bs _ h).mono ?_)
  rintro e w1 ⟨rfl, h1, hb1⟩
  obtain ⟨hB, v, hbk, hown, hne⟩ := h1
  have c0 : w1.cell? ⟨b, 0, none⟩ = some (.pointer (some ⟨b, 0, none⟩)) := by rw [Lib.cell_of_heap hbk]; rfl
  have c1 : w1.cell? ⟨b, 1, none⟩ = some v := by rw [Lib.cell_of_heap hbk]; rfl
  go_wp2_with (at_builtin; refine Lib.wpList_append_own_string _ rfl _ _ 49 9 rfl B 5 i0 slB.u under_str HI.out HZ0.out HZ1.out HZ2.out _ _ _ rfl hown s rfl ?c3 ?c4 ?c5 ?_)
  case c3 => unfold maxLen; omega
  case c4 => omega
  case c5 => have := hb1.size; omega
  intro v' w2 hown' hgrow _
  have hlt : b < w1.heap.size := (Array.getElem?_eq_some_iff.1 hbk).1
  have hb2 : w2.heap[b]? = some (.cells #[.pointer (some ⟨b, 0, none⟩), v] 130 (0, 0)) := by
    rw [hgrow.block b hlt (fun e => hne e.symm)]
    exact hbk
  have d0 : w2.cell? ⟨b, 0, none⟩ = some (.pointer (some ⟨b, 0, none⟩)) := by rw [Lib.cell_of_heap hb2]; rfl
  have d1 : w2.cell? ⟨b, 1, none⟩ = some v := by rw [Lib.cell_of_heap hb2]; rfl
  have f1 : w2.frozen? ⟨b, 1, none⟩ = false := Lib.frozen_of_heap hb2 1
  obtain ⟨ao, n', cap, rfl⟩ : ∃ ao n' cap, v' = .slice ao n' cap := by
    rcases hown'.2 with ⟨hv, _⟩ | ⟨g, cap, cur, hv, _⟩
    · exact ⟨_, _, _, hv⟩
    · exact ⟨_, _, _, hv⟩
  go_wp2
  go_ret2
  refine ⟨rfl, ?_, ?_⟩
  · exact Lib.BuilderAt.put (T := 130) (e := 5) hB hb2 (bs' := bs ++ Lib.strCells s) (by simpa [Lib.strCells_length] using hown') (by decide)
  · exact (hb1.grown hgrow (by have := hb1.size; omega) (fun k hk => (hown.lt k hk).1)).setCell (p := ⟨b, 1, none⟩) hB _
end Go.Proofs.YtaokemapkgggoaaGreatDoor

namespace Go.Proofs.YtaokemapkgggoaaGreatDoor
open Go.Shelf
def shelf_lays169_ren : Go.Shelf.Ren := ⟨fun | 169 => 79 | n => n, fun | 70 => 128 | 9 => 9 | 0 => 0 | 72 => 130 | 37 => 49 | 127 => 153 | 3 => 3 | 5 => 5 | n => n, fun | n => n⟩
theorem shelf_lays169 : Go.Proofs.Lays.n169 Tryz.prog shelf_lays169_ren := {
  mixed := by kernel_rfl
  f169 := Tryz.func79.trans (congrArg some (by kernel_rfl))
  t0 := Tryz.underlying0
  a0 := Tryz.isAgg0
  z0 := Tryz.sizeOf0
  v0 := Tryz.zeroValue0
  t3 := Tryz.underlying3
  a3 := Tryz.isAgg3
  z3 := Tryz.sizeOf3
  v3 := Tryz.zeroValue3
  t9 := Tryz.underlying9
  a9 := Tryz.isAgg9
  z9 := Tryz.sizeOf9
  v9 := Tryz.zeroValue9
  t37 := Tryz.underlying49
  a37 := Tryz.isAgg49
  z37 := Tryz.sizeOf49
  v37 := Tryz.zeroValue49
  t70 := Tryz.underlying128
  a70 := Tryz.isAgg128
  z70 := Tryz.sizeOf128
  v70 := Tryz.zeroValue128
  t72 := Tryz.underlying130
  a72 := Tryz.isAgg130
  z72 := Tryz.sizeOf130
  v72 := Tryz.zeroValue130
  t127 := Tryz.underlying153
  a127 := Tryz.isAgg153
  z127 := Tryz.sizeOf153
  v127 := Tryz.zeroValue153 }
theorem shelf_Builder_Extra_169 : Builder.Extra Tryz.prog shelf_lays169_ren := {
  sizeBuilder := by kernel_rfl
  liesBuilder := by kernel_rfl
  t5 := Tryz.underlying5
  a5 := Tryz.isAgg5
  z5 := Tryz.sizeOf5
  v5 := Tryz.zeroValue5
  infoByte := by kernel_rfl
  cellsByte := by kernel_rfl
  sizeByte := by kernel_rfl
  neB5 := by decide }
open Go.RowKit in
open Go.RowKit in
open Go.RowKit in
theorem shelf_Builder_String_any (B b : Nat) (l : List UInt8) (w : World) (h : Lib.IsBuilder 130 5 B b (Lib.byteCells l) w) (hBw : B ≤ w.heap.size) :
    Calls Tryz.prog 79 #[.pointer (some ⟨b, 0, none⟩)] w fun e w' => e = .returned (.string ⟨l.toArray⟩) ∧ Below B w w' := Any.Builder_String_any shelf_lays169 shelf_Builder_Extra_169 B b l w h hBw
def shelf_laysM316_ren : Go.Shelf.Ren := ⟨fun | 316 => 94 | n => n, fun | 9 => 9 | 3 => 3 | 4 => 4 | 37 => 49 | 0 => 0 | 127 => 153 | 5 => 5 | n => n, fun | n => n⟩
theorem shelf_laysM316 : Go.Proofs.LaysM.n316 Tryz.prog shelf_laysM316_ren := {
  mixed := by kernel_rfl
  f316 := Tryz.func94.trans (congrArg some (by kernel_rfl))
  t0 := Tryz.underlying0
  a0 := Tryz.isAgg0
  z0 := Tryz.sizeOf0
  v0 := Tryz.zeroValue0
  t3 := Tryz.underlying3
  a3 := Tryz.isAgg3
  z3 := Tryz.sizeOf3
  v3 := Tryz.zeroValue3
  t4 := Tryz.underlying4
  a4 := Tryz.isAgg4
  z4 := Tryz.sizeOf4
  v4 := Tryz.zeroValue4
  t9 := Tryz.underlying9
  a9 := Tryz.isAgg9
  z9 := Tryz.sizeOf9
  v9 := Tryz.zeroValue9
  t37 := Tryz.underlying49
  a37 := Tryz.isAgg49
  z37 := Tryz.sizeOf49
  v37 := Tryz.zeroValue49
  t127 := Tryz.underlying153
  a127 := Tryz.isAgg153
  z127 := Tryz.sizeOf153
  v127 := Tryz.zeroValue153
  t5 := Tryz.underlying5
  a5 := Tryz.isAgg5
  z5 := Tryz.sizeOf5
  v5 := Tryz.zeroValue5
  i0 := by kernel_rfl
  i3 := by kernel_rfl
  i4 := by kernel_rfl
  i5 := by kernel_rfl
  i9 := by kernel_rfl
  i37 := by kernel_rfl
  i127 := by kernel_rfl }
open Go.RowKit in
theorem shelf_stringslite_Clone (s : ByteArray) (w : World) (hlim : s.size ≤ 281474976710656) :
    Calls Tryz.prog 94 #[.string s] w fun e w' => e = .returned (.string s) ∧ Below w.heap.size w w' := Any.stringslite_Clone shelf_laysM316 s w hlim
end Go.Proofs.YtaokemapkgggoaaGreatDoor

namespace Go.Proofs.YtaokemapkgggoaaGreatDoor
open Go.RowKit

/-- a Builder stays, where another block is written -/
theorem BuilderAt.grownE {T e : TypeId} {B b g : Nat} {p : Value} {bs : List Value} {w w' : World} (h : Lib.BuilderAt T e B b p bs w) (hg : w.grownBy w' (some g)) (hlt : g < B) : Lib.BuilderAt T e B b p bs w' := by
  obtain ⟨hB, v, hb, hown, hne⟩ := h
  refine ⟨hB, v, ?_, hown.kept hg (.inr fun e => ?_), hne⟩
  · rw [hg.block b (Array.getElem?_eq_some_iff.1 hb).1 (fun e => by cases e; omega)]
    exact hb
  · have := (hown.lt g e).1
    omega
theorem IsBuilder.grownE {T e : TypeId} {B b g : Nat} {bs : List Value} {w w' : World} (h : Lib.IsBuilder T e B b bs w) (hg : w.grownBy w' (some g)) (hlt : g < B) : Lib.IsBuilder T e B b bs w' :=
  h.imp (fun k => BuilderAt.grownE k hg hlt) (fun k => BuilderAt.grownE k hg hlt)
theorem below_grownE {w W W' : World} {g : Nat} (h : w.grownBy W (some g)) (hb : Below w.heap.size W W') : w.grownBy W' (some g) :=
  ⟨hb.os.trans h.os, hb.tape.trans h.tape, hb.output.trans h.output, Nat.le_trans h.size hb.size, fun k hk hne => (hb.block k hk).trans (h.block k hk hne)⟩

/-- between two frames -/
structure CutAt (w : World) (g b : Nat) (c0 : ByteArray) (fin : List UInt8 × Dv) (n : Nat) (e : Dv) (come : ByteArray) (out : List UInt8) (wr : World) : Prop where
  at_ : PdAt wr g (e.inB c0)
  st : e.stands
  ok : e.sound
  on : e.off = false
  len : come.size < n
  fin : fin = (out ++ (feedC n e come.data.toList).1, (feedC n e come.data.toList).2)
  room : out.length + 36 * come.size ≤ 80000000
  grown : w.grownBy wr (some g)
  bld : Lib.IsBuilder 130 5 w.heap.size b (Lib.byteCells out) wr
/-- the power has gone -/
structure GoneAt (w : World) (g b : Nat) (fin : List UInt8 × Dv) (out : List UInt8) (wr : World) : Prop where
  off : fin.2.off = true
  outs : fin.1 = out
  at_ : PdOff wr g fin.2
  grown : w.grownBy wr (some g)
  bld : Lib.IsBuilder 130 5 w.heap.size b (Lib.byteCells out) wr
theorem CutAt.fit {w : World} {g b : Nat} {c0 : ByteArray} {fin : List UInt8 × Dv} {n : Nat} {e : Dv} {come : ByteArray} {out : List UInt8} {wr : World} (A : CutAt w g b c0 fin n e come out wr) : e.fit := A.st.fit A.ok

theorem skip_self {l : List UInt8} (h : l = [] ∨ (bytesI l).getD 0 0 = 165) : skip l = l := by
  have := skip_at l 0 (Nat.zero_le _) (fun j hj => absurd hj (by omega)) (h.imp (fun e => by rw [e]; rfl) id)
  rwa [List.drop_zero] at this
theorem skip_one {l : List UInt8} (h : ¬ (bytesI l).getD 0 0 = 165) (hl : 1 ≤ l.length) : skip l = skip (l.drop 1) := by
  match l, hl with
  | a :: t, _ =>
    have ha : a ≠ 165 := by
      intro e
      rw [e] at h
      exact h rfl
    unfold skip
    rw [List.dropWhile_cons, if_pos (by simpa using ha)]
    rfl
section
variable {w : World} {g b : Nat} {c0 : ByteArray} {fin : List UInt8 × Dv} {n : Nat} {e : Dv} {come : ByteArray} {out : List UInt8} {wr w2 : World}
theorem CutAt.below (A : CutAt w g b c0 fin n e come out wr) (hlt : g < w.heap.size) (hb : Below wr.heap.size wr w2) : CutAt w g b c0 fin n e come out w2 :=
  ⟨A.at_.below hb A.at_.lt, A.st, A.ok, A.on, A.len, A.fin, A.room, grown_below A.grown hb, IsBuilder.grownE A.bld (grown_of_below _ hb) hlt⟩
theorem CutAt.pass (A : CutAt w g b c0 fin n e come out wr) (h1 : 1 ≤ come.size) (h : ¬ (bytesI come.data.toList).getD 0 0 = 165) : CutAt w g b c0 fin n e (come.extract 1 come.size) out wr := by
  obtain ⟨m, rfl⟩ : ∃ m, n = m + 1 := ⟨n - 1, by have := A.len; omega⟩
  have hl := A.len
  have hr := A.room
  have hs : (come.extract 1 come.size).size = come.size - 1 := by rw [ByteArray.size_extract]; omega
  refine ⟨A.at_, A.st, A.ok, A.on, by omega, ?_, by omega, A.grown, A.bld⟩
  rw [A.fin, ext_list, feedC_skip (skip_one h (by rw [← size_data]; exact h1))]
theorem CutAt.wait (A : CutAt w g b c0 fin n e come out wr) (hs : come.data.toList = [] ∨ (bytesI come.data.toList).getD 0 0 = 165) (h : come.size < 2 ∨ (fLen come.data.toList ≤ 48 ∧ come.size < fLen come.data.toList + 4)) : fin = (out, e.inB come) := by
  obtain ⟨m, rfl⟩ : ∃ m, n = m + 1 := ⟨n - 1, by have := A.len; omega⟩
  rw [A.fin, feedC_wait A.on (skip_self hs) (by rw [← size_data]; exact h), List.append_nil]
  unfold Dv.withIn Dv.inB
  rw [list_str]
theorem CutAt.bad (A : CutAt w g b c0 fin n e come out wr) (hs : come.data.toList = [] ∨ (bytesI come.data.toList).getD 0 0 = 165) (h : ¬ (come.size < 2 ∨ (fLen come.data.toList ≤ 48 ∧ come.size < fLen come.data.toList + 4)))
    (hb : 48 < fLen come.data.toList ∨ ¬ (1 + sumB ((come.data.toList.drop 1).take (fLen come.data.toList + 2))) % 256 = (bytesI come.data.toList).getD (fLen come.data.toList + 3) 0)
    (hd : PdAt w2 g (e.inB c0)) (hg : w.grownBy w2 (some g)) (hB : Lib.IsBuilder 130 5 w.heap.size b (Lib.byteCells (out ++ told 1 [])) w2) : CutAt w g b c0 fin (n - 1) e (come.extract 1 come.size) (out ++ told 1 []) w2 := by
  obtain ⟨m, rfl⟩ : ∃ m, n = m + 1 := ⟨n - 1, by have := A.len; omega⟩
  have hl := A.len
  have hr := A.room
  have hz : (come.extract 1 come.size).size = come.size - 1 := by rw [ByteArray.size_extract]; omega
  refine ⟨hd, A.st, A.ok, A.on, by omega, ?_, by rw [List.length_append, told_length]; simp only [List.length_nil]; omega, hg, hB⟩
  rw [A.fin, ext_list, feedC_bad A.on (skip_self hs) (by rw [← size_data]; exact h) hb, List.append_assoc]
  rw [show m + 1 - 1 = m from rfl]
  have := feedC_inB m e (str (come.data.toList.drop 1)) (come.data.toList.drop 1)
  rw [← this]
  rfl
theorem CutAt.cmd {c : Dv × Int × List UInt8} (A : CutAt w g b c0 fin n e come out wr) (hs : come.data.toList = [] ∨ (bytesI come.data.toList).getD 0 0 = 165) (h : ¬ (come.size < 2 ∨ (fLen come.data.toList ≤ 48 ∧ come.size < fLen come.data.toList + 4)))
    (hb : ¬ (48 < fLen come.data.toList ∨ ¬ (1 + sumB ((come.data.toList.drop 1).take (fLen come.data.toList + 2))) % 256 = (bytesI come.data.toList).getD (fLen come.data.toList + 3) 0))
    (hc : c = e.commandC ((bytesI come.data.toList).getD 2 0) (str ((come.data.toList.drop 3).take (fLen come.data.toList)))) (ho : c.1.off = false)
    (hd : PdAt w2 g (c.1.inB c0)) (hg : w.grownBy w2 (some g)) (hB : Lib.IsBuilder 130 5 w.heap.size b (Lib.byteCells (out ++ told c.2.1 c.2.2)) w2) : CutAt w g b c0 fin (n - 1) c.1 (come.extract (fLen come.data.toList + 4) come.size) (out ++ told c.2.1 c.2.2) w2 := by
  obtain ⟨m, rfl⟩ : ∃ m, n = m + 1 := ⟨n - 1, by have := A.len; omega⟩
  have hl := A.len
  have hr := A.room
  have hk := (Dv.commandC_sound A.ok ((bytesI come.data.toList).getD 2 0) (str ((come.data.toList.drop 3).take (fLen come.data.toList)))).1
  have hf := Dv.commandC_stands A.st A.ok ((bytesI come.data.toList).getD 2 0) (str ((come.data.toList.drop 3).take (fLen come.data.toList)))
  have hln := (Dv.commandC_len e ((bytesI come.data.toList).getD 2 0) (str ((come.data.toList.drop 3).take (fLen come.data.toList)))).1
  have hz : (come.extract (fLen come.data.toList + 4) come.size).size = come.size - (fLen come.data.toList + 4) := by rw [ByteArray.size_extract]; omega
  have hI := Dv.commandC_inB e (str (come.data.toList.drop (fLen come.data.toList + 4))) ((bytesI come.data.toList).getD 2 0) (str ((come.data.toList.drop 3).take (fLen come.data.toList)))
  rw [← hc] at hk hf hln hI
  refine ⟨hd, hf, hk, ho, by omega, ?_, by rw [List.length_append, told_length]; omega, hg, hB⟩
  rw [A.fin, ext_list, feedC_cmd A.on (skip_self hs) (by rw [← size_data]; exact h) hb rfl, List.append_assoc]
  rw [show m + 1 - 1 = m from rfl]
  rw [show e.withIn (come.data.toList.drop (fLen come.data.toList + 4)) = e.inB (str (come.data.toList.drop (fLen come.data.toList + 4))) from rfl, hI, feedC_inB, if_neg (by show ¬ c.1.off = true; rw [ho]; decide)]
theorem CutAt.cmdOff {c : Dv × Int × List UInt8} (A : CutAt w g b c0 fin n e come out wr) (hs : come.data.toList = [] ∨ (bytesI come.data.toList).getD 0 0 = 165) (h : ¬ (come.size < 2 ∨ (fLen come.data.toList ≤ 48 ∧ come.size < fLen come.data.toList + 4)))
    (hb : ¬ (48 < fLen come.data.toList ∨ ¬ (1 + sumB ((come.data.toList.drop 1).take (fLen come.data.toList + 2))) % 256 = (bytesI come.data.toList).getD (fLen come.data.toList + 3) 0))
    (hc : c = e.commandC ((bytesI come.data.toList).getD 2 0) (str ((come.data.toList.drop 3).take (fLen come.data.toList)))) (ho : c.1.off = true)
    (hd : PdOff w2 g c.1) (hg : w.grownBy w2 (some g)) (hB : Lib.IsBuilder 130 5 w.heap.size b (Lib.byteCells out) w2) : GoneAt w g b fin out w2 := by
  obtain ⟨m, rfl⟩ : ∃ m, n = m + 1 := ⟨n - 1, by have := A.len; omega⟩
  have hl := A.len
  have hz : 1 ≤ m := by have := size_data come; omega
  have hI := Dv.commandC_inB e (str (come.data.toList.drop (fLen come.data.toList + 4))) ((bytesI come.data.toList).getD 2 0) (str ((come.data.toList.drop 3).take (fLen come.data.toList)))
  rw [← hc] at hI
  obtain ⟨m', rfl⟩ : ∃ m', m = m' + 1 := ⟨m - 1, by omega⟩
  have hfin : fin = (out, c.1.withIn []) := by
    rw [A.fin, feedC_cmd A.on (skip_self hs) (by rw [← size_data]; exact h) hb rfl]
    rw [show e.withIn (come.data.toList.drop (fLen come.data.toList + 4)) = e.inB (str (come.data.toList.drop (fLen come.data.toList + 4))) from rfl, hI, feedC_inB, if_pos (by show c.1.off = true; exact ho), feedC_off ho]
    simp
  rw [hfin]
  exact ⟨ho, rfl, hd, by exact hg, by exact hB⟩
end
end Go.Proofs.YtaokemapkgggoaaGreatDoor
