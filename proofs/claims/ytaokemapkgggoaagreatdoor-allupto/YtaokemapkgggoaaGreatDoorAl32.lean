import Derived.Test.YtaokemapkgggoaaGreatDoorAl21
namespace Go.Proofs.YtaokemapkgggoaaGreatDoor
open Go.RowKit

/-- between two frames -/
structure FeedAt (w : World) (g sm0 : Nat) (fin : List UInt8 × Dv) (n : Nat) (d : Dv) (out : ByteArray) (wr : World) : Prop where
  at_ : DvAt wr g d
  ok : d.ok
  sm : d.sm = sm0
  summ : Summ wr sm0
  len : d.inn.size < n
  fin : fin = (out.data.toList ++ (feedF n d d.inn.data.toList).1, (feedF n d d.inn.data.toList).2)
  room : out.size + 36 * d.inn.size ≤ 80000000
  grown : w.grownBy wr (some g)
def inLen (g : Nat) (w : World) : Nat := strLen ((w.cell? ⟨g, 14, none⟩).getD undef)

theorem ext_list2 (b : ByteArray) (i j : Nat) : (b.extract i j).data.toList = (b.data.toList.drop i).take (j - i) := by
  rw [ByteArray.data_extract, Array.toList_extract, List.extract_eq_take_drop]
theorem ext_list (b : ByteArray) (i : Nat) : (b.extract i b.size).data.toList = b.data.toList.drop i := by
  rw [ext_list2]
  exact List.take_of_length_le (by rw [List.length_drop, Array.length_toList]; exact Nat.le_refl _)
theorem DvAt.setIn {w : World} {g : Nat} {e : Dv} (h : DvAt w g e) (b : ByteArray) : DvAt (w.setCell ⟨g, 14, none⟩ (.string b)) g (e.withIn b.data.toList) := by
  have := Row.setCell h 14 (.string b)
  unfold DvAt Dv.cells
  rw [show (e.withIn b.data.toList).inn = b from list_str b]
  exact this
theorem Dv.withIn_ok {d : Dv} (ok : d.ok) (l : List UInt8) : (d.withIn l).ok := ⟨ok.n0, ok.n1, ok.t0, ok.t1, ok.p0, ok.p1, ok.k0, ok.k1, ok.k2, ok.k3, ok.wh, ok.off, ok.cut⟩
theorem str_app (b : ByteArray) (l : List UInt8) : (b ++ str l).data.toList = b.data.toList ++ l := by rw [ByteArray.data_append, Array.toList_append, str_list]
theorem app_size (b : ByteArray) (l : List UInt8) : (b ++ str l).size = b.size + l.length := by rw [ByteArray.size_append, str_size]
theorem size_data (b : ByteArray) : b.size = b.data.toList.length := by rw [Array.length_toList]; rfl

theorem FeedAt.wait {w : World} {g sm0 : Nat} {fin : List UInt8 × Dv} {n : Nat} {e : Dv} {out : ByteArray} {wr : World} (A : FeedAt w g sm0 fin n e out wr) {s : List UInt8} (hs : skip e.inn.data.toList = s) (h : s.length < 2 ∨ (fLen s ≤ 48 ∧ s.length < fLen s + 4)) :
    fin = (out.data.toList, e.withIn s) := by
  obtain ⟨m, rfl⟩ : ∃ m, n = m + 1 := ⟨n - 1, by have := A.len; omega⟩
  rw [A.fin, feedF_wait hs h]; simp
theorem FeedAt.bad {w : World} {g sm0 : Nat} {fin : List UInt8 × Dv} {n : Nat} {e : Dv} {out : ByteArray} {wr w2 : World} (A : FeedAt w g sm0 fin n e out wr) {s : List UInt8} (hs : skip e.inn.data.toList = s)
    (h : ¬ (s.length < 2 ∨ (fLen s ≤ 48 ∧ s.length < fLen s + 4))) (hb : 48 < fLen s ∨ ¬ (1 + sumB ((s.drop 1).take (fLen s + 2))) % 256 = (bytesI s).getD (fLen s + 3) 0)
    (b : ByteArray) (hbl : b.data.toList = s.drop 1) (hd : DvAt w2 g (e.withIn b.data.toList)) (hg : wr.grownBy w2 (some g)) (hS : Summ w2 sm0) : FeedAt w g sm0 fin (n - 1) (e.withIn b.data.toList) (out ++ str (told 1 [])) w2 := by
  obtain ⟨m, rfl⟩ : ∃ m, n = m + 1 := ⟨n - 1, by have := A.len; omega⟩
  have e1 : (e.withIn b.data.toList).inn = b := list_str b
  have hsz : b.size = s.length - 1 := by rw [size_data, hbl, List.length_drop]
  have hsl : s.length ≤ e.inn.size := by rw [← hs, size_data]; exact skip_length _
  have hl := A.len
  have hr := A.room
  refine ⟨hd, Dv.withIn_ok A.ok _, A.sm, hS, by rw [e1]; omega, ?_, ?_, A.grown.trans hg⟩
  · rw [A.fin, feedF_bad hs h hb, e1, str_app, hbl, List.append_assoc]; rfl
  · rw [app_size, told_length, e1]; simp only [List.length_nil]; omega
theorem FeedAt.cmd {w : World} {g sm0 : Nat} {fin : List UInt8 × Dv} {n : Nat} {e : Dv} {out : ByteArray} {wr w2 : World} (A : FeedAt w g sm0 fin n e out wr) {s : List UInt8} {c : Dv × Int × List UInt8} (hs : skip e.inn.data.toList = s)
    (h : ¬ (s.length < 2 ∨ (fLen s ≤ 48 ∧ s.length < fLen s + 4))) (hb : ¬ (48 < fLen s ∨ ¬ (1 + sumB ((s.drop 1).take (fLen s + 2))) % 256 = (bytesI s).getD (fLen s + 3) 0))
    (hc : c = (e.withIn (s.drop (fLen s + 4))).command ((bytesI s).getD 2 0) (str ((s.drop 3).take (fLen s)))) (hd : DvAt w2 g c.1) (hg : wr.grownBy w2 (some g)) (hS : Summ w2 sm0) : FeedAt w g sm0 fin (n - 1) c.1 (out ++ str (told c.2.1 c.2.2)) w2 := by
  obtain ⟨m, rfl⟩ : ∃ m, n = m + 1 := ⟨n - 1, by have := A.len; omega⟩
  have hk := Dv.command_ok (Dv.withIn_ok A.ok (s.drop (fLen s + 4))) ((bytesI s).getD 2 0) (str ((s.drop 3).take (fLen s)))
  have hl := (Dv.command_len (e.withIn (s.drop (fLen s + 4))) ((bytesI s).getD 2 0) (str ((s.drop 3).take (fLen s)))).1
  rw [← hc] at hk hl
  have e1 : c.1.inn = str (s.drop (fLen s + 4)) := hk.2.inn
  have e2 : c.1.sm = e.sm := hk.2.sm
  have hsz : c.1.inn.size = s.length - (fLen s + 4) := by rw [e1, str_size, List.length_drop]
  have hsl : s.length ≤ e.inn.size := by rw [← hs, size_data]; exact skip_length _
  have hl2 := A.len
  have hr := A.room
  refine ⟨hd, hk.1, e2.trans A.sm, hS, by omega, ?_, ?_, A.grown.trans hg⟩
  · rw [A.fin, feedF_cmd hs h hb hc, e1, str_app, str_list, List.append_assoc]; rfl
  · rw [app_size, told_length]; omega
theorem FeedAt.less {g : Nat} {w wr : World} {d e : Dv} (h : DvAt w g d) (k : DvAt wr g e) (hl : d.inn.size < e.inn.size) : inLen g w < inLen g wr := by
  unfold inLen
  obtain ⟨-, -, -, -, -, -, -, -, -, -, -, -, -, -, c⟩ := h.c
  obtain ⟨-, -, -, -, -, -, -, -, -, -, -, -, -, -, c'⟩ := k.c
  rw [c, c']
  exact hl

end Go.Proofs.YtaokemapkgggoaaGreatDoor
