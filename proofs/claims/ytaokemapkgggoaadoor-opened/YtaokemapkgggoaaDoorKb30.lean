import Derived.Test.YtaokemapkgggoaaDoorKb29
import Derived.Test.YtaokemapkgggoaaDoorKb09
namespace Go.Proofs.YtaokemapkgggoaaDoor
open Go.RowKit

theorem code_list (l : List Int) (m : List UInt8) (b : ByteArray) (h : toBytes l = m) (hb : b = str m) : strOfNums l = b := by rw [strOfNums_str, h, hb]
/-- a new device of the program's -/
theorem keep_New (w0 w : World) (p : ByteArray) (hb : Below w0.heap.size w0 w) (h1 : 1 ≤ p.size) (h2 : p.size ≤ 8) :
    Calls Tryd.prog 29 #[.string p] w fun r w' => ∃ g, r = .returned (.tuple #[.pointer (some ⟨g, 0, none⟩), .int .i64 0]) ∧ w.heap.size ≤ g ∧ KdAt w0 w' g (Dv.fresh 0 p) ∧ Below w.heap.size w w' := by
  refine (prog_New_yes w p h1 h2).mono ?_
  rintro r w' ⟨g, hr, hg, hR, hbl⟩
  refine ⟨g, hr, hg, ⟨.inl ⟨rfl, ?_⟩, fresh_sound 0 p h1 h2, fresh_stands 0 p h1 h2, by show (0 : Nat) < 52; omega, Nat.le_trans hb.size hg, hb.trans (hbl.mono hb.size)⟩, hbl⟩
  have e0 : Bs (Dv.fresh 0 p).h0 = (Dv.fresh 0 p).k.img := str_list _
  have e1 : Bs (Dv.fresh 0 p).h1 = List.replicate 100 0 := (str_list _).trans rfl
  unfold PdAt
  rw [e0, e1]
  rw [show fieldB 9 p.data.toList = fieldB 9 (Bs p) from rfl, first_img p h2] at hR
  exact hR

/-- what feeding leaves, where the answer is known -/
theorem keep_fed {w0 w : World} {g : Nat} {d e : Dv} {l r : List UInt8} (G : Glob w0) (K : KdAt w0 w g d) (h : fed d l = (r, e)) (hs : l.length < 1900000) (s : ByteArray) (hl : s = str l) :
    Calls Tryd.prog 19 #[.pointer (some ⟨g, 0, none⟩), .string s] w fun r' w' => r' = .returned (.string (str r)) ∧ KdAt w0 w' g e ∧ w.grownBy w' (some g) := by
  have := keep_Feed G K l hs
  rw [h] at this
  rw [hl]
  exact this

/-- a whole frame, fed to a device with power that waits for nothing -/
theorem fed_cmd {d : Dv} {c : Dv × Int × List UInt8} (ki : Int) (p : List UInt8) (h0 : 0 ≤ ki) (h1 : ki < 256) (hp : p.length ≤ 48) (ho : d.off = false) (hi : d.inn = ⟨#[]⟩) (hc : d.commandC ki (str p) = c) :
    fed d (told ki p) = ((if c.1.off = true then [] else told c.2.1 c.2.2), c.1.withIn []) := by
  obtain ⟨n, rfl⟩ : ∃ n : Nat, ki = n := ⟨ki.toNat, by omega⟩
  rw [fed_frame n p (by omega) hp ho hi, hc]
theorem fed_on {d e : Dv} {st : Int} {l : List UInt8} (ki : Int) (p : List UInt8) (h0 : 0 ≤ ki) (h1 : ki < 256) (hp : p.length ≤ 48) (ho : d.off = false) (hi : d.inn = ⟨#[]⟩) (hc : d.commandC ki (str p) = (e, st, l)) (heo : e.off = false) (hei : e.inn = ⟨#[]⟩) :
    fed d (told ki p) = (told st l, e) := by
  rw [fed_cmd ki p h0 h1 hp ho hi hc]
  dsimp only
  rw [if_neg (by rw [heo]; decide), withIn_self hei]
end Go.Proofs.YtaokemapkgggoaaDoor

namespace Go.Proofs.YtaokemapkgggoaaDoor
open Go.RowKit

theorem awake_sum0 : sumSpec K0 H0 0 [] = [227, 176, 196, 66, 152, 252, 28, 20, 154, 251, 244, 200, 153, 111, 185, 36, 39, 174, 65, 228, 100, 155, 147, 76, 164, 149, 153, 27, 120, 82, 184, 85] := by decide +kernel
theorem awake_sum1 : sumSpec K0 H0 0 [97, 98, 99] = [186, 120, 22, 191, 143, 1, 207, 234, 65, 65, 64, 222, 93, 174, 34, 35, 176, 3, 97, 163, 150, 23, 122, 156, 180, 16, 255, 97, 242, 0, 21, 173] := by decide +kernel
theorem awake_code0 : codeSpec [49, 50, 51, 52, 53, 54, 55, 56, 57, 48, 49, 50, 51, 52, 53, 54, 55, 56, 57, 48] 0 = [56, 55, 53, 55, 52, 48] := by decide +kernel
theorem awake_code1 : codeSpec [49, 50, 51, 52, 53, 54, 55, 56, 57, 48, 49, 50, 51, 52, 53, 54, 55, 56, 57, 48] 1 = [50, 52, 55, 51, 55, 52] := by decide +kernel

end Go.Proofs.YtaokemapkgggoaaDoor
