import Derived.Test.YtaokemapkgggoaaDoorKb26
import Derived.Test.YtaokemapkgggoaaDoorKb14
namespace Go.Proofs.YtaokemapkgggoaaDoor
open Go.RowKit

/-- a Builder stays, where another block is written -/
theorem BuilderAt.grownE {T e : TypeId} {B b g : Nat} {p : Value} {bs : List Value} {w w' : World} (h : Lib.BuilderAt T e B b p bs w) (hg : w.grownBy w' (some g)) (hlt : g < B) : Lib.BuilderAt T e B b p bs w' := by
  obtain ⟨hB, v, hb, hown, hne⟩ := h
  refine ⟨hB, v, ?_, hown.kept hg (.inr fun e => ?_), hne⟩
  · rw [hg.block b (Array.getElem?_eq_some_iff.1 hb).1 (fun e => by cases e; omega)]
    exact hb
  · have := (hown.lt g e).1
    omega
theorem IsBuilder.grownE {T e : TypeId} {B b g : Nat} {bs : List Value} {w w' : World} (h : Lib.IsBuilder T e B b bs w) (hg : w.grownBy w' (some g)) (hlt : g < B) : Lib.IsBuilder T e B b bs w' :=
  h.imp (fun k => BuilderAt.grownE k hg hlt) (fun k => BuilderAt.grownE k hg hlt)
theorem below_grownE {w W W' : World} {g : Nat} (h : w.grownBy W (some g)) (hb : Below w.heap.size W W') : w.grownBy W' (some g) :=
  ⟨hb.os.trans h.os, hb.tape.trans h.tape, hb.output.trans h.output, Nat.le_trans h.size hb.size, fun k hk hne => (hb.block k hk).trans (h.block k hk hne)⟩

/-- between two frames -/
structure CutAt (w : World) (g b : Nat) (c0 : ByteArray) (fin : List UInt8 × Dv) (n : Nat) (e : Dv) (come : ByteArray) (out : List UInt8) (wr : World) : Prop where
  at_ : PdAt wr g (e.inB c0)
  st : e.stands
  ok : e.sound
  on : e.off = false
  len : come.size < n
  fin : fin = (out ++ (feedC n e come.data.toList).1, (feedC n e come.data.toList).2)
  room : out.length + 36 * come.size ≤ 80000000
  grown : w.grownBy wr (some g)
  bld : Lib.IsBuilder 102 5 w.heap.size b (Lib.byteCells out) wr
/-- the power has gone -/
structure GoneAt (w : World) (g b : Nat) (fin : List UInt8 × Dv) (out : List UInt8) (wr : World) : Prop where
  off : fin.2.off = true
  outs : fin.1 = out
  at_ : PdOff wr g fin.2
  grown : w.grownBy wr (some g)
  bld : Lib.IsBuilder 102 5 w.heap.size b (Lib.byteCells out) wr
theorem CutAt.fit {w : World} {g b : Nat} {c0 : ByteArray} {fin : List UInt8 × Dv} {n : Nat} {e : Dv} {come : ByteArray} {out : List UInt8} {wr : World} (A : CutAt w g b c0 fin n e come out wr) : e.fit := A.st.fit A.ok

theorem skip_self {l : List UInt8} (h : l = [] ∨ (bytesI l).getD 0 0 = 165) : skip l = l := by
  have := skip_at l 0 (Nat.zero_le _) (fun j hj => absurd hj (by omega)) (h.imp (fun e => by rw [e]; rfl) id)
  rwa [List.drop_zero] at this
theorem skip_one {l : List UInt8} (h : ¬ (bytesI l).getD 0 0 = 165) (hl : 1 ≤ l.length) : skip l = skip (l.drop 1) := by
  match l, hl with
  | a :: t, _ =>
    have ha : a ≠ 165 := by
      intro e
      rw [e] at h
      exact h rfl
    unfold skip
    rw [List.dropWhile_cons, if_pos (by simpa using ha)]
    rfl
section
variable {w : World} {g b : Nat} {c0 : ByteArray} {fin : List UInt8 × Dv} {n : Nat} {e : Dv} {come : ByteArray} {out : List UInt8} {wr w2 : World}
theorem CutAt.below (A : CutAt w g b c0 fin n e come out wr) (hlt : g < w.heap.size) (hb : Below wr.heap.size wr w2) : CutAt w g b c0 fin n e come out w2 :=
  ⟨A.at_.below hb A.at_.lt, A.st, A.ok, A.on, A.len, A.fin, A.room, grown_below A.grown hb, IsBuilder.grownE A.bld (grown_of_below _ hb) hlt⟩
theorem CutAt.pass (A : CutAt w g b c0 fin n e come out wr) (h1 : 1 ≤ come.size) (h : ¬ (bytesI come.data.toList).getD 0 0 = 165) : CutAt w g b c0 fin n e (come.extract 1 come.size) out wr := by
  obtain ⟨m, rfl⟩ : ∃ m, n = m + 1 := ⟨n - 1, by have := A.len; omega⟩
  have hl := A.len
  have hr := A.room
  have hs : (come.extract 1 come.size).size = come.size - 1 := by rw [ByteArray.size_extract]; omega
  refine ⟨A.at_, A.st, A.ok, A.on, by omega, ?_, by omega, A.grown, A.bld⟩
  rw [A.fin, ext_list, feedC_skip (skip_one h (by rw [← size_data]; exact h1))]
theorem CutAt.wait (A : CutAt w g b c0 fin n e come out wr) (hs : come.data.toList = [] ∨ (bytesI come.data.toList).getD 0 0 = 165) (h : come.size < 2 ∨ (fLen come.data.toList ≤ 48 ∧ come.size < fLen come.data.toList + 4)) : fin = (out, e.inB come) := by
  obtain ⟨m, rfl⟩ : ∃ m, n = m + 1 := ⟨n - 1, by have := A.len; omega⟩
  rw [A.fin, feedC_wait A.on (skip_self hs) (by rw [← size_data]; exact h), List.append_nil]
  unfold Dv.withIn Dv.inB
  rw [list_str]
theorem CutAt.bad (A : CutAt w g b c0 fin n e come out wr) (hs : come.data.toList = [] ∨ (bytesI come.data.toList).getD 0 0 = 165) (h : ¬ (come.size < 2 ∨ (fLen come.data.toList ≤ 48 ∧ come.size < fLen come.data.toList + 4)))
    (hb : 48 < fLen come.data.toList ∨ ¬ (1 + sumB ((come.data.toList.drop 1).take (fLen come.data.toList + 2))) % 256 = (bytesI come.data.toList).getD (fLen come.data.toList + 3) 0)
    (hd : PdAt w2 g (e.inB c0)) (hg : w.grownBy w2 (some g)) (hB : Lib.IsBuilder 102 5 w.heap.size b (Lib.byteCells (out ++ told 1 [])) w2) : CutAt w g b c0 fin (n - 1) e (come.extract 1 come.size) (out ++ told 1 []) w2 := by
  obtain ⟨m, rfl⟩ : ∃ m, n = m + 1 := ⟨n - 1, by have := A.len; omega⟩
  have hl := A.len
  have hr := A.room
  have hz : (come.extract 1 come.size).size = come.size - 1 := by rw [ByteArray.size_extract]; omega
  refine ⟨hd, A.st, A.ok, A.on, by omega, ?_, by rw [List.length_append, told_length]; simp only [List.length_nil]; omega, hg, hB⟩
  rw [A.fin, ext_list, feedC_bad A.on (skip_self hs) (by rw [← size_data]; exact h) hb, List.append_assoc]
  rw [show m + 1 - 1 = m from rfl]
  have := feedC_inB m e (str (come.data.toList.drop 1)) (come.data.toList.drop 1)
  rw [← this]
  rfl
theorem CutAt.cmd {c : Dv × Int × List UInt8} (A : CutAt w g b c0 fin n e come out wr) (hs : come.data.toList = [] ∨ (bytesI come.data.toList).getD 0 0 = 165) (h : ¬ (come.size < 2 ∨ (fLen come.data.toList ≤ 48 ∧ come.size < fLen come.data.toList + 4)))
    (hb : ¬ (48 < fLen come.data.toList ∨ ¬ (1 + sumB ((come.data.toList.drop 1).take (fLen come.data.toList + 2))) % 256 = (bytesI come.data.toList).getD (fLen come.data.toList + 3) 0))
    (hc : c = e.commandC ((bytesI come.data.toList).getD 2 0) (str ((come.data.toList.drop 3).take (fLen come.data.toList)))) (ho : c.1.off = false)
    (hd : PdAt w2 g (c.1.inB c0)) (hg : w.grownBy w2 (some g)) (hB : Lib.IsBuilder 102 5 w.heap.size b (Lib.byteCells (out ++ told c.2.1 c.2.2)) w2) : CutAt w g b c0 fin (n - 1) c.1 (come.extract (fLen come.data.toList + 4) come.size) (out ++ told c.2.1 c.2.2) w2 := by
  obtain ⟨m, rfl⟩ : ∃ m, n = m + 1 := ⟨n - 1, by have := A.len; omega⟩
  have hl := A.len
  have hr := A.room
  have hk := (Dv.commandC_sound A.ok ((bytesI come.data.toList).getD 2 0) (str ((come.data.toList.drop 3).take (fLen come.data.toList)))).1
  have hf := Dv.commandC_stands A.st A.ok ((bytesI come.data.toList).getD 2 0) (str ((come.data.toList.drop 3).take (fLen come.data.toList)))
  have hln := (Dv.commandC_len e ((bytesI come.data.toList).getD 2 0) (str ((come.data.toList.drop 3).take (fLen come.data.toList)))).1
  have hz : (come.extract (fLen come.data.toList + 4) come.size).size = come.size - (fLen come.data.toList + 4) := by rw [ByteArray.size_extract]; omega
  have hI := Dv.commandC_inB e (str (come.data.toList.drop (fLen come.data.toList + 4))) ((bytesI come.data.toList).getD 2 0) (str ((come.data.toList.drop 3).take (fLen come.data.toList)))
  rw [← hc] at hk hf hln hI
  refine ⟨hd, hf, hk, ho, by omega, ?_, by rw [List.length_append, told_length]; omega, hg, hB⟩
  rw [A.fin, ext_list, feedC_cmd A.on (skip_self hs) (by rw [← size_data]; exact h) hb rfl, List.append_assoc]
  rw [show m + 1 - 1 = m from rfl]
  rw [show e.withIn (come.data.toList.drop (fLen come.data.toList + 4)) = e.inB (str (come.data.toList.drop (fLen come.data.toList + 4))) from rfl, hI, feedC_inB, if_neg (by show ¬ c.1.off = true; rw [ho]; decide)]
theorem CutAt.cmdOff {c : Dv × Int × List UInt8} (A : CutAt w g b c0 fin n e come out wr) (hs : come.data.toList = [] ∨ (bytesI come.data.toList).getD 0 0 = 165) (h : ¬ (come.size < 2 ∨ (fLen come.data.toList ≤ 48 ∧ come.size < fLen come.data.toList + 4)))
    (hb : ¬ (48 < fLen come.data.toList ∨ ¬ (1 + sumB ((come.data.toList.drop 1).take (fLen come.data.toList + 2))) % 256 = (bytesI come.data.toList).getD (fLen come.data.toList + 3) 0))
    (hc : c = e.commandC ((bytesI come.data.toList).getD 2 0) (str ((come.data.toList.drop 3).take (fLen come.data.toList)))) (ho : c.1.off = true)
    (hd : PdOff w2 g c.1) (hg : w.grownBy w2 (some g)) (hB : Lib.IsBuilder 102 5 w.heap.size b (Lib.byteCells out) w2) : GoneAt w g b fin out w2 := by
  obtain ⟨m, rfl⟩ : ∃ m, n = m + 1 := ⟨n - 1, by have := A.len; omega⟩
  have hl := A.len
  have hz : 1 ≤ m := by have := size_data come; omega
  have hI := Dv.commandC_inB e (str (come.data.toList.drop (fLen come.data.toList + 4))) ((bytesI come.data.toList).getD 2 0) (str ((come.data.toList.drop 3).take (fLen come.data.toList)))
  rw [← hc] at hI
  obtain ⟨m', rfl⟩ : ∃ m', m = m' + 1 := ⟨m - 1, by omega⟩
  have hfin : fin = (out, c.1.withIn []) := by
    rw [A.fin, feedC_cmd A.on (skip_self hs) (by rw [← size_data]; exact h) hb rfl]
    rw [show e.withIn (come.data.toList.drop (fLen come.data.toList + 4)) = e.inB (str (come.data.toList.drop (fLen come.data.toList + 4))) from rfl, hI, feedC_inB, if_pos (by show c.1.off = true; exact ho), feedC_off ho]
    simp
  rw [hfin]
  exact ⟨ho, rfl, hd, by exact hg, by exact hB⟩
end
end Go.Proofs.YtaokemapkgggoaaDoor
