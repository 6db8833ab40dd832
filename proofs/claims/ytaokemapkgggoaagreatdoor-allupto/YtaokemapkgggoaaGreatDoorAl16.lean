import Derived.Test.YtaokemapkgggoaaGreatDoorAl15
import Derived.Test.YtaokemapkgggoaaGreatDoorAl09
import Derived.Deep.RegionLaw
import Derived.Deep.RegionHeld3
namespace Go.Proofs.YtaokemapkgggoaaGreatDoor
open Go.RowKit

theorem drewN_drew (w : World) (n : Nat) : (w.drewN n).drew = w.drewN (n + 1) := by
  rw [show (w.drewN n).drew = (w.drewN n).drewN 1 from rfl, World.drewN_drewN]
theorem size_img : (Tryz.prog.info? 93).map (·.size) = some 100 := by kernel_rfl
theorem run_indexFlash (w : World) (g o i : Nat) (x : Int) (hx : x = i) (hi : i < 2) (p : Nat) (hp : p = o + 100 * i) : (Instr.indexAt 96 (.pointer (some ⟨g, o, none⟩)) (.int .i64 x)).run Tryz.prog w = .ok (.pointer (some ⟨g, p, none⟩)) w := by
  subst hx hp
  cases hq : Tryz.prog.info? 93 with
  | none => have := size_img; simp [hq] at this
  | some q =>
    have hs : q.size = 100 := by have := size_img; simpa [hq] using this
    simp [Instr.indexAt, asIntOf, run_underlying under_flash, Instr.sureAddr, sizeOf, typeInfo, hq, hs, Addr.add]
    rw [if_pos (by omega)]
    rcases (by omega : i = 0 ∨ i = 1) with rfl | rfl <;> simp

set_option maxRecDepth 100000 in
set_option maxHeartbeats 1000000 in
theorem prog_kept_ff (w : World) (g o o1 : Nat) (ho : o1 = o + 100) (h0 h1 : List UInt8) (b0 : Bool) (i0 : ImgAt w g o h0) (i1 : ImgAt w g o1 h1) (t0 : Told h0 b0) (t1 : Told h1 false) :
    Calls Tryz.prog 54 #[.pointer (some ⟨g, o, none⟩)] w fun r w' => r = .returned (.tuple #[.int .i64 0, .bool b0]) ∧ ∃ n, w' = w.drewN n := by
  have I0 : Hid _ := i0
  have I1 : Hid _ := i1
  have T0 : Hid (Told h0 b0) := t0
  have T1 : Hid (Told h1 false) := t1
  clear i0 i1 t0 t1
  have x0 := fun wx => run_indexFlash wx g o 0 0 rfl (by omega) o (by omega)
  have x1 := fun wx => run_indexFlash wx g o 1 1 rfl (by omega) o1 (by omega)
  clear ho
  go_enter Tryz.func54, Tryz.ntmps54
  go_wp2
  refine wp_region_quiet_lit (by kernel_rfl) (by kernel_rfl) ?_
  quiet_step (fail)
  quiet_step (fail)
  quiet_step (fail)
  quiet_step (exact Calls.quiet_of (prog_rightI _ g o h0 b0 (I0.out.drewN _) T0.out))
  quiet_step (fail)
  quiet_step (fail)
  quiet_step (fail)
  quiet_step (exact Calls.quiet_of (prog_rightI _ g o1 h1 false (I1.out.drewN _) T1.out))
  quiet_step (fail)
  quiet_step (fail)
  refine wpQuiet_nil ?_
  intro _ hw'
  obtain ⟨nq, hw''⟩ := hw'
  subst hw''
  have J0 : Hid _ := I0.out.drewN nq
  have J1 : Hid _ := I1.out.drewN nq
  obtain ⟨w1, HW1⟩ : ∃ w1, Hid (w1 = w.drewN nq) := ⟨_, rfl⟩
  rw [← HW1.out] at J0 J1
  rw [← HW1.out]
  clear I0 I1
  go_wp2
  go_region
  go_wp2
  go_ret2
  exact ⟨rfl, nq + 1, by rw [HW1.out]; exact drewN_drew w nq⟩

set_option maxRecDepth 100000 in
set_option maxHeartbeats 1000000 in
theorem prog_kept_ft (w : World) (g o o1 : Nat) (ho : o1 = o + 100) (h0 h1 : List UInt8) (i0 : ImgAt w g o h0) (i1 : ImgAt w g o1 h1) (t0 : Told h0 false) (t1 : Told h1 true) :
    Calls Tryz.prog 54 #[.pointer (some ⟨g, o, none⟩)] w fun r w' => r = .returned (.tuple #[.int .i64 1, .bool true]) ∧ ∃ n, w' = w.drewN n := by
  have I0 : Hid _ := i0
  have I1 : Hid _ := i1
  have T0 : Hid (Told h0 false) := t0
  have T1 : Hid (Told h1 true) := t1
  clear i0 i1 t0 t1
  have x0 := fun wx => run_indexFlash wx g o 0 0 rfl (by omega) o (by omega)
  have x1 := fun wx => run_indexFlash wx g o 1 1 rfl (by omega) o1 (by omega)
  clear ho
  go_enter Tryz.func54, Tryz.ntmps54
  go_wp2
  refine wp_region_quiet_lit (by kernel_rfl) (by kernel_rfl) ?_
  quiet_step (fail)
  quiet_step (fail)
  quiet_step (fail)
  quiet_step (exact Calls.quiet_of (prog_rightI _ g o h0 false (I0.out.drewN _) T0.out))
  quiet_step (fail)
  quiet_step (fail)
  quiet_step (fail)
  quiet_step (exact Calls.quiet_of (prog_rightI _ g o1 h1 true (I1.out.drewN _) T1.out))
  quiet_step (fail)
  quiet_step (fail)
  refine wpQuiet_nil ?_
  intro _ hw'
  obtain ⟨nq, hw''⟩ := hw'
  subst hw''
  have J0 : Hid _ := I0.out.drewN nq
  have J1 : Hid _ := I1.out.drewN nq
  obtain ⟨w1, HW1⟩ : ∃ w1, Hid (w1 = w.drewN nq) := ⟨_, rfl⟩
  rw [← HW1.out] at J0 J1
  rw [← HW1.out]
  clear I0 I1
  go_wp2
  go_region
  go_wp2
  go_ret2
  exact ⟨rfl, nq + 1, by rw [HW1.out]; exact drewN_drew w nq⟩

set_option maxRecDepth 100000 in
set_option maxHeartbeats 1000000 in
theorem prog_kept_tt1 (w : World) (g o o1 : Nat) (ho : o1 = o + 100) (h0 h1 : List UInt8) (i0 : ImgAt w g o h0) (i1 : ImgAt w g o1 h1) (t0 : Told h0 true) (t1 : Told h1 true) (hn : numOf h0 < numOf h1) :
    Calls Tryz.prog 54 #[.pointer (some ⟨g, o, none⟩)] w fun r w' => r = .returned (.tuple #[.int .i64 1, .bool true]) ∧ ∃ n, w' = w.drewN n := by
  have I0 : Hid _ := i0
  have I1 : Hid _ := i1
  have T0 : Hid (Told h0 true) := t0
  have T1 : Hid (Told h1 true) := t1
  clear i0 i1 t0 t1
  have x0 := fun wx => run_indexFlash wx g o 0 0 rfl (by omega) o (by omega)
  have x1 := fun wx => run_indexFlash wx g o 1 1 rfl (by omega) o1 (by omega)
  clear ho
  go_enter Tryz.func54, Tryz.ntmps54
  go_wp2
  refine wp_region_quiet_lit (by kernel_rfl) (by kernel_rfl) ?_
  quiet_step (fail)
  quiet_step (fail)
  quiet_step (fail)
  quiet_step (exact Calls.quiet_of (prog_rightI _ g o h0 true (I0.out.drewN _) T0.out))
  quiet_step (fail)
  quiet_step (fail)
  quiet_step (fail)
  quiet_step (exact Calls.quiet_of (prog_rightI _ g o1 h1 true (I1.out.drewN _) T1.out))
  quiet_step (fail)
  quiet_step (fail)
  refine wpQuiet_nil ?_
  intro _ hw'
  obtain ⟨nq, hw''⟩ := hw'
  subst hw''
  have J0 : Hid _ := I0.out.drewN nq
  have J1 : Hid _ := I1.out.drewN nq
  obtain ⟨w1, HW1⟩ : ∃ w1, Hid (w1 = w.drewN nq) := ⟨_, rfl⟩
  rw [← HW1.out] at J0 J1
  rw [← HW1.out]
  clear I0 I1
  go_wp2
  refine wp_region_quiet_lit (by kernel_rfl) (by kernel_rfl) ?_
  quiet_step (fail)
  quiet_step (fail)
  quiet_step (fail)
  quiet_step (fail)
  quiet_step (fail)
  quiet_step (fail)
  quiet_step (fail)
  quiet_step (fail)
  quiet_step (exact Calls.quiet_of (prog_number _ g o1 h1 (J1.out.drewN _)))
  quiet_step (fail)
  quiet_step (fail)
  quiet_step (fail)
  quiet_step (exact Calls.quiet_of (prog_number _ g o h0 (J0.out.drewN _)))
  quiet_step (fail)
  quiet_step (fail)
  quiet_step (fail)
  refine wpQuiet_nil ?_
  intro _ hw'
  obtain ⟨nq, hw''⟩ := hw'
  subst hw''
  go_wp2
  go_ret2
  exact ⟨rfl, _, by rw [HW1.out, World.drewN_drewN]⟩

set_option maxRecDepth 100000 in
set_option maxHeartbeats 1000000 in
theorem prog_kept_tt0 (w : World) (g o o1 : Nat) (ho : o1 = o + 100) (h0 h1 : List UInt8) (i0 : ImgAt w g o h0) (i1 : ImgAt w g o1 h1) (t0 : Told h0 true) (t1 : Told h1 true) (hn : ¬ numOf h0 < numOf h1) :
    Calls Tryz.prog 54 #[.pointer (some ⟨g, o, none⟩)] w fun r w' => r = .returned (.tuple #[.int .i64 0, .bool true]) ∧ ∃ n, w' = w.drewN n := by
  have I0 : Hid _ := i0
  have I1 : Hid _ := i1
  have T0 : Hid (Told h0 true) := t0
  have T1 : Hid (Told h1 true) := t1
  clear i0 i1 t0 t1
  have x0 := fun wx => run_indexFlash wx g o 0 0 rfl (by omega) o (by omega)
  have x1 := fun wx => run_indexFlash wx g o 1 1 rfl (by omega) o1 (by omega)
  clear ho
  go_enter Tryz.func54, Tryz.ntmps54
  go_wp2
  refine wp_region_quiet_lit (by kernel_rfl) (by kernel_rfl) ?_
  quiet_step (fail)
  quiet_step (fail)
  quiet_step (fail)
  quiet_step (exact Calls.quiet_of (prog_rightI _ g o h0 true (I0.out.drewN _) T0.out))
  quiet_step (fail)
  quiet_step (fail)
  quiet_step (fail)
  quiet_step (exact Calls.quiet_of (prog_rightI _ g o1 h1 true (I1.out.drewN _) T1.out))
  quiet_step (fail)
  quiet_step (fail)
  refine wpQuiet_nil ?_
  intro _ hw'
  obtain ⟨nq, hw''⟩ := hw'
  subst hw''
  have J0 : Hid _ := I0.out.drewN nq
  have J1 : Hid _ := I1.out.drewN nq
  obtain ⟨w1, HW1⟩ : ∃ w1, Hid (w1 = w.drewN nq) := ⟨_, rfl⟩
  rw [← HW1.out] at J0 J1
  rw [← HW1.out]
  clear I0 I1
  go_wp2
  refine wp_region_quiet_lit (by kernel_rfl) (by kernel_rfl) ?_
  quiet_step (fail)
  quiet_step (fail)
  quiet_step (fail)
  quiet_step (fail)
  quiet_step (fail)
  quiet_step (fail)
  quiet_step (fail)
  quiet_step (fail)
  quiet_step (exact Calls.quiet_of (prog_number _ g o1 h1 (J1.out.drewN _)))
  quiet_step (fail)
  quiet_step (fail)
  quiet_step (fail)
  quiet_step (exact Calls.quiet_of (prog_number _ g o h0 (J0.out.drewN _)))
  quiet_step (fail)
  quiet_step (fail)
  quiet_step (fail)
  refine wpQuiet_nil ?_
  intro _ hw'
  obtain ⟨nq, hw''⟩ := hw'
  subst hw''
  go_wp2
  go_ret2
  exact ⟨rfl, _, by rw [HW1.out, World.drewN_drewN]⟩

end Go.Proofs.YtaokemapkgggoaaGreatDoor

namespace Go.Proofs.YtaokemapkgggoaaGreatDoor
open Go.RowKit

def goL : Code → Code
  | .seq a _ => a
  | c => c
def goR : Code → Code
  | .seq _ b => b
  | c => c
def goI : Code → Code
  | .loop c => c
  | .block _ c => c
  | .scope c => c
  | c => c
/-- the only way out is the one out of the block of that number -/
def onlyExit (k : Nat) (N : Act → World → Prop) : Exit → Act → World → Prop
  | .exit j, a, w => j = k ∧ N a w
  | _, _, _ => False
def goR4 (c : Code) : Code := goR (goR (goR (goR c)))
/-- the body of the function that tells a text's sum -/
def sumCode (f : Func) : Code := f.body.getD .skip
/-- a round over one block of 64 bytes -/
def sumTurn (f : Func) : Code := goI (goI (goR (goL (goR (goR (goR4 (goR4 (sumCode f))))))))
/-- a round of the loop that lays the 64 words -/
def sumWord (f : Func) : Code := goI (goI (goR (goL (goR (goI (goL (goR (sumTurn f))))))))
/-- a round of the loop of 64 mixings -/
def sumMix (f : Func) : Code := goI (goI (goR (goL (goR4 (goI (goL (goR (sumTurn f))))))))
/-- a round of the loop that adds -/
def sumAdd (f : Func) : Code := goI (goI (goR (goR (goR4 (goI (goL (goR (sumTurn f))))))))
/-- a round of the loop that lays the bytes -/
def sumOut (f : Func) : Code := goI (goI (goR (goL (goR4 (goR4 (goR4 (sumCode f)))))))

theorem wrap8_id (n : Int) (h0 : 0 ≤ n) (h1 : n < 256) : IntKind.u8.wrap n = n := by
  simp only [IntKind.wrap, IntKind.bits, IntKind.signed]
  simp
  omega
theorem eightTo_take (n : Int) (i : Nat) (h : i < 8) : (eightTo n 8).take (i + 1) = (eightTo n 8).take i ++ [n / 2 ^ (56 - 8 * i) % 256] := by
  rw [List.take_succ_eq_append_getElem (by rw [eightTo_length]; exact h)]
  congr 2
  simp [eightTo, h]
theorem pow_step (i : Nat) (h : i < 8) : (72057594037927936 : Int) / 256 ^ i = 2 ^ (56 - 8 * i) := by
  match i, h with
  | 0, _ => rfl
  | 1, _ => rfl
  | 2, _ => rfl
  | 3, _ => rfl
  | 4, _ => rfl
  | 5, _ => rfl
  | 6, _ => rfl
  | 7, _ => rfl
theorem div_256 (i : Nat) : (72057594037927936 : Int) / 256 ^ i / 256 = 72057594037927936 / 256 ^ (i + 1) := by
  rw [Int.ediv_ediv_of_nonneg (Int.pow_nonneg (by omega)), Int.pow_succ]
theorem pow_bd8 (i : Nat) (h : i < 8) : 1 ≤ (2 : Int) ^ (56 - 8 * i) ∧ (2 : Int) ^ (56 - 8 * i) ≤ 72057594037927936 := by
  have h1 : (2 : Nat) ^ (56 - 8 * i) ≤ 2 ^ 56 := Nat.pow_le_pow_right (by omega) (by omega)
  have h2 : 0 < (2 : Nat) ^ (56 - 8 * i) := Nat.pow_pos (by omega)
  have e : ((2 ^ (56 - 8 * i) : Nat) : Int) = (2 : Int) ^ (56 - 8 * i) := by simp
  have h3 : (2 : Nat) ^ 56 = 72057594037927936 := by decide
  omega

theorem blk_byte {T : ByteArray} {tl : List UInt8} (h : Hid (T.data.toList = tl)) {a j : Nat} (ha : a + 64 ≤ T.size) (hj : j < 64) : ((T[a + j]'(by omega)).toNat : Int) = (blk 64 (tl.drop a)).getD j 0 := by
  have hsz : tl.length = T.size := by rw [← h.out, Array.length_toList]; rfl
  have hl : j < ((tl.drop a).take 64).length := by rw [List.length_take, List.length_drop]; omega
  have h1 : (blk 64 (tl.drop a)).getD j 0 = ((((tl.drop a).take 64)[j]'hl).toNat : Int) := by
    unfold blk List.getD
    rw [List.getElem?_append_left (by rw [bytesI, List.length_map]; exact hl), bytesI, List.getElem?_map, List.getElem?_eq_getElem hl]
    rfl
  rw [h1]
  congr 2
  rw [List.getElem_take, List.getElem_drop]
  have h2 := h.out
  subst h2
  rfl

end Go.Proofs.YtaokemapkgggoaaGreatDoor

namespace Go.Proofs.YtaokemapkgggoaaGreatDoor
open Go.RowKit

set_option maxRecDepth 1000000 in
set_option maxHeartbeats 16000000 in
theorem sum_word_a (T : ByteArray) (m t N : Nat) (wr : World) (wv : Value) (wl : List Int) (y0 y1 y2 y3 : Int)
    (hm64 : 64 * m + 64 ≤ T.size) (hTb : T.size < 200000) (hlt4 : t < 64) (h16 : t < 16)
    (x0 : ((T[64 * m + 4 * t]'(by omega)).toNat : Int) = y0) (y01 : y0 < 256) (x1 : ((T[64 * m + 4 * t + 1]'(by omega)).toNat : Int) = y1) (y11 : y1 < 256) (x2 : ((T[64 * m + 4 * t + 2]'(by omega)).toNat : Int) = y2) (y21 : y2 < 256) (x3 : ((T[64 * m + 4 * t + 3]'(by omega)).toNat : Int) = y3) (y31 : y3 < 256)
    (hW : Own wr N .i64 3 wv wl) (HWL : Hid (wl.length = t)) (hbs2 : N ≤ wr.heap.size)
    (K : Exit → Act → World → Prop) (e0 e2 e3 e4 e5 e6 e7 e8 e9 e18 e19 e20 e21 e22 e23 e24 e25 e26 e27 e28 e29 e30 e31 e32 e33 e34 e35 e36 e37 e38 e39 e40 e41 e42 e43 e44 e45 e46 e47 e48 e49 e50 e51 e52 e53 e54 e55 e56 e57 e58 e59 e60 e61 e62 e63 e64 e65 e66 e67 e68 e69 e70 e154 e155 e156 e157 e158 e159 e160 e161 e162 e163 e164 e165 e166 e167 e168 e169 e170 e171 e172 e173 e174 e175 e176 e177 e178 e179 e180 e181 e182 e183 e184 e185 e186 e187 e188 e189 e190 e191 e192 e193 e194 e195 e196 e197 e198 e199 e200 e201 e202 e203 e204 e205 e206 e207 e208 e209 e210 e211 e212 e213 e214 e215 e216 e217 e218 e219 e220 e221 e222 e223 e224 e225 e226 e227 e228 e229 e230 e231 e232 e233 e234 e235 e236 e237 e238 e239 e240 e241 e242 e243 e244 e245 e246 e247 e248 e249 e250 e251 e252 e253 e254 e255 e256 e257 e258 e259 e260 e261 e262 e263 e264 e265 e266 e267 e268 e269 e270 e271 e272 e273 e274 e275 e276 e277 e278 e279 e280 e281 e282 e283 e284 e285 e286 e287 e288 e289 e290 e291 e292 e293 e294 e295 e296 e297 e298 e299 e300 e301 e302 e303 e304 e305 e306 e307 e308 e309 e310 e311 e312 e313 e314 e315 e316 u13 u14 u15 u16 u17 u71 u72 u73 u74 u75 u76 u77 u78 u79 u80 u81 u82 u83 u84 u85 u86 u87 u88 u89 u90 u91 u92 u93 u94 u95 u96 u97 u98 u99 u100 u101 u102 u103 u104 u105 u106 u107 u108 u109 u110 u111 u112 u113 u114 u115 u116 u117 u118 u119 u120 u121 u122 u123 u124 u125 u126 u127 u128 u129 u130 u131 u132 u133 u134 u135 u136 u137 u138 u139 u140 u141 u142 u143 u144 u145 u146 u147 u148 u149 u150 u151 u152 u153 : Value)
    (hK : ∀ (v11 v12 : Value) (w' : World), v12 = .int .i64 ((t + 1 : Nat) : Int) → Own w' N .i64 3 v11 (wl ++ [word4 y0 y1 y2 y3]) → wr.grownBy w' (wv).ownBlock → (v11.ownBlock = (wv).ownBlock ∨ v11.ownBlock = some (wr.heap.size + 1)) → ∀ v13 v14 v15 v16 v17 v71 v72 v73 v74 v75 v76 v77 v78 v79 v80 v81 v82 v83 v84 v85 v86 v87 v88 v89 v90 v91 v92 v93 v94 v95 v96 v97 v98 v99 v100 v101 v102 v103 v104 v105 v106 v107 v108 v109 v110 v111 v112 v113 v114 v115 v116 v117 v118 v119 v120 v121 v122 v123 v124 v125 v126 v127 v128 v129 v130 v131 v132 v133 v134 v135 v136 v137 v138 v139 v140 v141 v142 v143 v144 v145 v146 v147 v148 v149 v150 v151 v152 v153 : Value, K .normal (Act.mk (List.toArray (e0 :: Value.string T :: e2 :: e3 :: e4 :: e5 :: e6 :: e7 :: e8 :: e9 :: Value.int .i64 (64 * (m : Int)) :: v11 :: v12 :: v13 :: v14 :: v15 :: v16 :: v17 :: e18 :: e19 :: e20 :: e21 :: e22 :: e23 :: e24 :: e25 :: e26 :: e27 :: e28 :: e29 :: e30 :: e31 :: e32 :: e33 :: e34 :: e35 :: e36 :: e37 :: e38 :: e39 :: e40 :: e41 :: e42 :: e43 :: e44 :: e45 :: e46 :: e47 :: e48 :: e49 :: e50 :: e51 :: e52 :: e53 :: e54 :: e55 :: e56 :: e57 :: e58 :: e59 :: e60 :: e61 :: e62 :: e63 :: e64 :: e65 :: e66 :: e67 :: e68 :: e69 :: e70 :: v71 :: v72 :: v73 :: v74 :: v75 :: v76 :: v77 :: v78 :: v79 :: v80 :: v81 :: v82 :: v83 :: v84 :: v85 :: v86 :: v87 :: v88 :: v89 :: v90 :: v91 :: v92 :: v93 :: v94 :: v95 :: v96 :: v97 :: v98 :: v99 :: v100 :: v101 :: v102 :: v103 :: v104 :: v105 :: v106 :: v107 :: v108 :: v109 :: v110 :: v111 :: v112 :: v113 :: v114 :: v115 :: v116 :: v117 :: v118 :: v119 :: v120 :: v121 :: v122 :: v123 :: v124 :: v125 :: v126 :: v127 :: v128 :: v129 :: v130 :: v131 :: v132 :: v133 :: v134 :: v135 :: v136 :: v137 :: v138 :: v139 :: v140 :: v141 :: v142 :: v143 :: v144 :: v145 :: v146 :: v147 :: v148 :: v149 :: v150 :: v151 :: v152 :: v153 :: e154 :: e155 :: e156 :: e157 :: e158 :: e159 :: e160 :: e161 :: e162 :: e163 :: e164 :: e165 :: e166 :: e167 :: e168 :: e169 :: e170 :: e171 :: e172 :: e173 :: e174 :: e175 :: e176 :: e177 :: e178 :: e179 :: e180 :: e181 :: e182 :: e183 :: e184 :: e185 :: e186 :: e187 :: e188 :: e189 :: e190 :: e191 :: e192 :: e193 :: e194 :: e195 :: e196 :: e197 :: e198 :: e199 :: e200 :: e201 :: e202 :: e203 :: e204 :: e205 :: e206 :: e207 :: e208 :: e209 :: e210 :: e211 :: e212 :: e213 :: e214 :: e215 :: e216 :: e217 :: e218 :: e219 :: e220 :: e221 :: e222 :: e223 :: e224 :: e225 :: e226 :: e227 :: e228 :: e229 :: e230 :: e231 :: e232 :: e233 :: e234 :: e235 :: e236 :: e237 :: e238 :: e239 :: e240 :: e241 :: e242 :: e243 :: e244 :: e245 :: e246 :: e247 :: e248 :: e249 :: e250 :: e251 :: e252 :: e253 :: e254 :: e255 :: e256 :: e257 :: e258 :: e259 :: e260 :: e261 :: e262 :: e263 :: e264 :: e265 :: e266 :: e267 :: e268 :: e269 :: e270 :: e271 :: e272 :: e273 :: e274 :: e275 :: e276 :: e277 :: e278 :: e279 :: e280 :: e281 :: e282 :: e283 :: e284 :: e285 :: e286 :: e287 :: e288 :: e289 :: e290 :: e291 :: e292 :: e293 :: e294 :: e295 :: e296 :: e297 :: e298 :: e299 :: e300 :: e301 :: e302 :: e303 :: e304 :: e305 :: e306 :: e307 :: e308 :: e309 :: e310 :: e311 :: e312 :: e313 :: e314 :: e315 :: e316 :: [])) []) w') :
    Code.wp Tryz.prog (sumWord Tryz.f14) K (Act.mk (List.toArray (e0 :: Value.string T :: e2 :: e3 :: e4 :: e5 :: e6 :: e7 :: e8 :: e9 :: Value.int .i64 (64 * (m : Int)) :: wv :: Value.int .i64 t :: u13 :: u14 :: u15 :: u16 :: u17 :: e18 :: e19 :: e20 :: e21 :: e22 :: e23 :: e24 :: e25 :: e26 :: e27 :: e28 :: e29 :: e30 :: e31 :: e32 :: e33 :: e34 :: e35 :: e36 :: e37 :: e38 :: e39 :: e40 :: e41 :: e42 :: e43 :: e44 :: e45 :: e46 :: e47 :: e48 :: e49 :: e50 :: e51 :: e52 :: e53 :: e54 :: e55 :: e56 :: e57 :: e58 :: e59 :: e60 :: e61 :: e62 :: e63 :: e64 :: e65 :: e66 :: e67 :: e68 :: e69 :: e70 :: u71 :: u72 :: u73 :: u74 :: u75 :: u76 :: u77 :: u78 :: u79 :: u80 :: u81 :: u82 :: u83 :: u84 :: u85 :: u86 :: u87 :: u88 :: u89 :: u90 :: u91 :: u92 :: u93 :: u94 :: u95 :: u96 :: u97 :: u98 :: u99 :: u100 :: u101 :: u102 :: u103 :: u104 :: u105 :: u106 :: u107 :: u108 :: u109 :: u110 :: u111 :: u112 :: u113 :: u114 :: u115 :: u116 :: u117 :: u118 :: u119 :: u120 :: u121 :: u122 :: u123 :: u124 :: u125 :: u126 :: u127 :: u128 :: u129 :: u130 :: u131 :: u132 :: u133 :: u134 :: u135 :: u136 :: u137 :: u138 :: u139 :: u140 :: u141 :: u142 :: u143 :: u144 :: u145 :: u146 :: u147 :: u148 :: u149 :: u150 :: u151 :: u152 :: u153 :: e154 :: e155 :: e156 :: e157 :: e158 :: e159 :: e160 :: e161 :: e162 :: e163 :: e164 :: e165 :: e166 :: e167 :: e168 :: e169 :: e170 :: e171 :: e172 :: e173 :: e174 :: e175 :: e176 :: e177 :: e178 :: e179 :: e180 :: e181 :: e182 :: e183 :: e184 :: e185 :: e186 :: e187 :: e188 :: e189 :: e190 :: e191 :: e192 :: e193 :: e194 :: e195 :: e196 :: e197 :: e198 :: e199 :: e200 :: e201 :: e202 :: e203 :: e204 :: e205 :: e206 :: e207 :: e208 :: e209 :: e210 :: e211 :: e212 :: e213 :: e214 :: e215 :: e216 :: e217 :: e218 :: e219 :: e220 :: e221 :: e222 :: e223 :: e224 :: e225 :: e226 :: e227 :: e228 :: e229 :: e230 :: e231 :: e232 :: e233 :: e234 :: e235 :: e236 :: e237 :: e238 :: e239 :: e240 :: e241 :: e242 :: e243 :: e244 :: e245 :: e246 :: e247 :: e248 :: e249 :: e250 :: e251 :: e252 :: e253 :: e254 :: e255 :: e256 :: e257 :: e258 :: e259 :: e260 :: e261 :: e262 :: e263 :: e264 :: e265 :: e266 :: e267 :: e268 :: e269 :: e270 :: e271 :: e272 :: e273 :: e274 :: e275 :: e276 :: e277 :: e278 :: e279 :: e280 :: e281 :: e282 :: e283 :: e284 :: e285 :: e286 :: e287 :: e288 :: e289 :: e290 :: e291 :: e292 :: e293 :: e294 :: e295 :: e296 :: e297 :: e298 :: e299 :: e300 :: e301 :: e302 :: e303 :: e304 :: e305 :: e306 :: e307 :: e308 :: e309 :: e310 :: e311 :: e312 :: e313 :: e314 :: e315 :: e316 :: [])) []) wr := by
  refine wp_mono (Q := Exit.then (K .normal) (fun _ _ _ => False)) ?_ (fun e a w h => by cases e <;> first | exact h | exact h.elim)
  conv => arg 2; whnf
  have hd64 : decide ((t : Int) < 64) = true := by simp; omega
  have h16' : (t : Int) < 16 := by omega
  have e0 : (64 * (m : Int) + 4 * (t : Int)).toNat = 64 * m + 4 * t := by omega
  have e1 : (64 * (m : Int) + 4 * (t : Int) + 1).toNat = 64 * m + 4 * t + 1 := by omega
  have e2 : (64 * (m : Int) + 4 * (t : Int) + 2).toNat = 64 * m + 4 * t + 2 := by omega
  have e3 : (64 * (m : Int) + 4 * (t : Int) + 3).toNat = 64 * m + 4 * t + 3 := by omega
  have n0 : 0 ≤ 64 * (m : Int) + 4 * (t : Int) := by omega
  have n1 : 0 ≤ 64 * (m : Int) + 4 * (t : Int) + 1 := by omega
  have n2 : 0 ≤ 64 * (m : Int) + 4 * (t : Int) + 2 := by omega
  have n3 : 0 ≤ 64 * (m : Int) + 4 * (t : Int) + 3 := by omega
  have o0 : 64 * (m : Int) + 4 * (t : Int) < T.size := by omega
  have o1 : 64 * (m : Int) + 4 * (t : Int) + 1 < T.size := by omega
  have o2 : 64 * (m : Int) + 4 * (t : Int) + 2 < T.size := by omega
  have o3 : 64 * (m : Int) + 4 * (t : Int) + 3 < T.size := by omega
  have p0 : 64 * m + 4 * t < T.size := by omega
  have p1 : 64 * m + 4 * t + 1 < T.size := by omega
  have p2 : 64 * m + 4 * t + 2 < T.size := by omega
  have p3 : 64 * m + 4 * t + 3 < T.size := by omega
  have j1 := wrap_id (64 * (m : Int) + 4 * (t : Int) + 1) (by omega) (by omega)
  have j2 := wrap_id (64 * (m : Int) + 4 * (t : Int) + 2) (by omega) (by omega)
  have j3 := wrap_id (64 * (m : Int) + 4 * (t : Int) + 3) (by omega) (by omega)
  have k0 := wrap_id y0 (by omega) (by omega)
  have k1 := wrap_id y1 (by omega) (by omega)
  have k2 := wrap_id y2 (by omega) (by omega)
  have k3 := wrap_id y3 (by omega) (by omega)
  have j4 := wrap_id (y0 * 256) (by omega) (by omega)
  have j5 := wrap_id (y0 * 256 + y1) (by omega) (by omega)
  have j6 := wrap_id ((y0 * 256 + y1) * 256) (by omega) (by omega)
  have j7 := wrap_id ((y0 * 256 + y1) * 256 + y2) (by omega) (by omega)
  have j8 := wrap_id (((y0 * 256 + y1) * 256 + y2) * 256) (by omega) (by omega)
  have j9 := wrap_id (((y0 * 256 + y1) * 256 + y2) * 256 + y3) (by omega) (by omega)
  go_wp2
  refine wp_region_held (S := fun _ => True) (by kernel_rfl) ?_
  refine wpAnyH_take (i := 0) (v := wv) rfl (by kernel_rfl) (by kernel_rfl) (by kernel_rfl) (fun _ _ _ h => h) (yields_of rfl (fun w' _ => by go_simp)) trivial ?_
  try simp only [List.getElem_toArray, List.getElem_cons_zero, Act.put, List.setIfInBounds_toArray, List.set_cons_succ, List.set_cons_zero]
  refine wpAnyH_take (i := 1) (v := .string T) rfl (by kernel_rfl) (by kernel_rfl) (by kernel_rfl) (fun _ _ _ h => h) (yields_of rfl (fun w' _ => by go_simp)) trivial ?_
  try simp only [List.getElem_toArray, List.getElem_cons_succ, List.getElem_cons_zero, Act.put, List.setIfInBounds_toArray, List.set_cons_succ, List.set_cons_zero]
  refine wpAnyH_take (i := 2) (v := .int .i64 ((64 * (m : Int) + 4 * (t : Int)))) rfl (by kernel_rfl) (by kernel_rfl) (by kernel_rfl) (fun _ _ _ h => h) (yields_of rfl (fun w' _ => by go_simp)) trivial ?_
  try simp only [List.getElem_toArray, List.getElem_cons_succ, List.getElem_cons_zero, Act.put, List.setIfInBounds_toArray, List.set_cons_succ, List.set_cons_zero]
  refine wpAnyH_take (i := 3) (v := .int .u8 y0) rfl (by kernel_rfl) (by kernel_rfl) (by kernel_rfl) (fun _ _ _ h => h) (yields_of rfl (fun w' _ => by go_simp)) trivial ?_
  try simp only [List.getElem_toArray, List.getElem_cons_succ, List.getElem_cons_zero, Act.put, List.setIfInBounds_toArray, List.set_cons_succ, List.set_cons_zero]
  refine wpAnyH_take (i := 4) (v := .int .i64 (y0)) rfl (by kernel_rfl) (by kernel_rfl) (by kernel_rfl) (fun _ _ _ h => h) (yields_of rfl (fun w' _ => by go_simp)) trivial ?_
  try simp only [List.getElem_toArray, List.getElem_cons_succ, List.getElem_cons_zero, Act.put, List.setIfInBounds_toArray, List.set_cons_succ, List.set_cons_zero]
  refine wpAnyH_take (i := 5) (v := .int .i64 (y0 * 256)) rfl (by kernel_rfl) (by kernel_rfl) (by kernel_rfl) (fun _ _ _ h => h) (yields_of rfl (fun w' _ => by go_simp)) trivial ?_
  try simp only [List.getElem_toArray, List.getElem_cons_succ, List.getElem_cons_zero, Act.put, List.setIfInBounds_toArray, List.set_cons_succ, List.set_cons_zero]
  refine wpAnyH_take (i := 6) (v := .string T) rfl (by kernel_rfl) (by kernel_rfl) (by kernel_rfl) (fun _ _ _ h => h) (yields_of rfl (fun w' _ => by go_simp)) trivial ?_
  try simp only [List.getElem_toArray, List.getElem_cons_succ, List.getElem_cons_zero, Act.put, List.setIfInBounds_toArray, List.set_cons_succ, List.set_cons_zero]
  refine wpAnyH_take (i := 7) (v := .int .i64 ((64 * (m : Int) + 4 * (t : Int)))) rfl (by kernel_rfl) (by kernel_rfl) (by kernel_rfl) (fun _ _ _ h => h) (yields_of rfl (fun w' _ => by go_simp)) trivial ?_
  try simp only [List.getElem_toArray, List.getElem_cons_succ, List.getElem_cons_zero, Act.put, List.setIfInBounds_toArray, List.set_cons_succ, List.set_cons_zero]
  refine wpAnyH_take (i := 8) (v := .int .i64 ((64 * (m : Int) + 4 * (t : Int)) + 1)) rfl (by kernel_rfl) (by kernel_rfl) (by kernel_rfl) (fun _ _ _ h => h) (yields_of rfl (fun w' _ => by go_simp)) trivial ?_
  try simp only [List.getElem_toArray, List.getElem_cons_succ, List.getElem_cons_zero, Act.put, List.setIfInBounds_toArray, List.set_cons_succ, List.set_cons_zero]
  refine wpAnyH_take (i := 9) (v := .int .u8 y1) rfl (by kernel_rfl) (by kernel_rfl) (by kernel_rfl) (fun _ _ _ h => h) (yields_of rfl (fun w' _ => by go_simp)) trivial ?_
  try simp only [List.getElem_toArray, List.getElem_cons_succ, List.getElem_cons_zero, Act.put, List.setIfInBounds_toArray, List.set_cons_succ, List.set_cons_zero]
  refine wpAnyH_take (i := 10) (v := .int .i64 (y1)) rfl (by kernel_rfl) (by kernel_rfl) (by kernel_rfl) (fun _ _ _ h => h) (yields_of rfl (fun w' _ => by go_simp)) trivial ?_
  try simp only [List.getElem_toArray, List.getElem_cons_succ, List.getElem_cons_zero, Act.put, List.setIfInBounds_toArray, List.set_cons_succ, List.set_cons_zero]
  refine wpAnyH_take (i := 11) (v := .int .i64 (y0 * 256 + y1)) rfl (by kernel_rfl) (by kernel_rfl) (by kernel_rfl) (fun _ _ _ h => h) (yields_of rfl (fun w' _ => by go_simp)) trivial ?_
  try simp only [List.getElem_toArray, List.getElem_cons_succ, List.getElem_cons_zero, Act.put, List.setIfInBounds_toArray, List.set_cons_succ, List.set_cons_zero]
  refine wpAnyH_take (i := 12) (v := .int .i64 ((y0 * 256 + y1) * 256)) rfl (by kernel_rfl) (by kernel_rfl) (by kernel_rfl) (fun _ _ _ h => h) (yields_of rfl (fun w' _ => by go_simp)) trivial ?_
  try simp only [List.getElem_toArray, List.getElem_cons_succ, List.getElem_cons_zero, Act.put, List.setIfInBounds_toArray, List.set_cons_succ, List.set_cons_zero]
  refine wpAnyH_take (i := 13) (v := .string T) rfl (by kernel_rfl) (by kernel_rfl) (by kernel_rfl) (fun _ _ _ h => h) (yields_of rfl (fun w' _ => by go_simp)) trivial ?_
  try simp only [List.getElem_toArray, List.getElem_cons_succ, List.getElem_cons_zero, Act.put, List.setIfInBounds_toArray, List.set_cons_succ, List.set_cons_zero]
  refine wpAnyH_take (i := 14) (v := .int .i64 ((64 * (m : Int) + 4 * (t : Int)))) rfl (by kernel_rfl) (by kernel_rfl) (by kernel_rfl) (fun _ _ _ h => h) (yields_of rfl (fun w' _ => by go_simp)) trivial ?_
  try simp only [List.getElem_toArray, List.getElem_cons_succ, List.getElem_cons_zero, Act.put, List.setIfInBounds_toArray, List.set_cons_succ, List.set_cons_zero]
  refine wpAnyH_take (i := 15) (v := .int .i64 ((64 * (m : Int) + 4 * (t : Int)) + 2)) rfl (by kernel_rfl) (by kernel_rfl) (by kernel_rfl) (fun _ _ _ h => h) (yields_of rfl (fun w' _ => by go_simp)) trivial ?_
  try simp only [List.getElem_toArray, List.getElem_cons_succ, List.getElem_cons_zero, Act.put, List.setIfInBounds_toArray, List.set_cons_succ, List.set_cons_zero]
  refine wpAnyH_take (i := 16) (v := .int .u8 y2) rfl (by kernel_rfl) (by kernel_rfl) (by kernel_rfl) (fun _ _ _ h => h) (yields_of rfl (fun w' _ => by go_simp)) trivial ?_
  try simp only [List.getElem_toArray, List.getElem_cons_succ, List.getElem_cons_zero, Act.put, List.setIfInBounds_toArray, List.set_cons_succ, List.set_cons_zero]
  refine wpAnyH_take (i := 17) (v := .int .i64 (y2)) rfl (by kernel_rfl) (by kernel_rfl) (by kernel_rfl) (fun _ _ _ h => h) (yields_of rfl (fun w' _ => by go_simp)) trivial ?_
  try simp only [List.getElem_toArray, List.getElem_cons_succ, List.getElem_cons_zero, Act.put, List.setIfInBounds_toArray, List.set_cons_succ, List.set_cons_zero]
  refine wpAnyH_take (i := 18) (v := .int .i64 ((y0 * 256 + y1) * 256 + y2)) rfl (by kernel_rfl) (by kernel_rfl) (by kernel_rfl) (fun _ _ _ h => h) (yields_of rfl (fun w' _ => by go_simp)) trivial ?_
  try simp only [List.getElem_toArray, List.getElem_cons_succ, List.getElem_cons_zero, Act.put, List.setIfInBounds_toArray, List.set_cons_succ, List.set_cons_zero]
  refine wpAnyH_take (i := 19) (v := .int .i64 (((y0 * 256 + y1) * 256 + y2) * 256)) rfl (by kernel_rfl) (by kernel_rfl) (by kernel_rfl) (fun _ _ _ h => h) (yields_of rfl (fun w' _ => by go_simp)) trivial ?_
  try simp only [List.getElem_toArray, List.getElem_cons_succ, List.getElem_cons_zero, Act.put, List.setIfInBounds_toArray, List.set_cons_succ, List.set_cons_zero]
  refine wpAnyH_take (i := 20) (v := .string T) rfl (by kernel_rfl) (by kernel_rfl) (by kernel_rfl) (fun _ _ _ h => h) (yields_of rfl (fun w' _ => by go_simp)) trivial ?_
  try simp only [List.getElem_toArray, List.getElem_cons_succ, List.getElem_cons_zero, Act.put, List.setIfInBounds_toArray, List.set_cons_succ, List.set_cons_zero]
  refine wpAnyH_take (i := 21) (v := .int .i64 ((64 * (m : Int) + 4 * (t : Int)))) rfl (by kernel_rfl) (by kernel_rfl) (by kernel_rfl) (fun _ _ _ h => h) (yields_of rfl (fun w' _ => by go_simp)) trivial ?_
  try simp only [List.getElem_toArray, List.getElem_cons_succ, List.getElem_cons_zero, Act.put, List.setIfInBounds_toArray, List.set_cons_succ, List.set_cons_zero]
  refine wpAnyH_take (i := 22) (v := .int .i64 ((64 * (m : Int) + 4 * (t : Int)) + 3)) rfl (by kernel_rfl) (by kernel_rfl) (by kernel_rfl) (fun _ _ _ h => h) (yields_of rfl (fun w' _ => by go_simp)) trivial ?_
  try simp only [List.getElem_toArray, List.getElem_cons_succ, List.getElem_cons_zero, Act.put, List.setIfInBounds_toArray, List.set_cons_succ, List.set_cons_zero]
  refine wpAnyH_take (i := 23) (v := .int .u8 y3) rfl (by kernel_rfl) (by kernel_rfl) (by kernel_rfl) (fun _ _ _ h => h) (yields_of rfl (fun w' _ => by go_simp)) trivial ?_
  try simp only [List.getElem_toArray, List.getElem_cons_succ, List.getElem_cons_zero, Act.put, List.setIfInBounds_toArray, List.set_cons_succ, List.set_cons_zero]
  refine wpAnyH_take (i := 24) (v := .int .i64 (y3)) rfl (by kernel_rfl) (by kernel_rfl) (by kernel_rfl) (fun _ _ _ h => h) (yields_of rfl (fun w' _ => by go_simp)) trivial ?_
  try simp only [List.getElem_toArray, List.getElem_cons_succ, List.getElem_cons_zero, Act.put, List.setIfInBounds_toArray, List.set_cons_succ, List.set_cons_zero]
  refine wpAnyH_take (i := 25) (v := .int .i64 (((y0 * 256 + y1) * 256 + y2) * 256 + y3)) rfl (by kernel_rfl) (by kernel_rfl) (by kernel_rfl) (fun _ _ _ h => h) (yields_of rfl (fun w' _ => by go_simp)) trivial ?_
  try simp only [List.getElem_toArray, List.getElem_cons_succ, List.getElem_cons_zero, Act.put, List.setIfInBounds_toArray, List.set_cons_succ, List.set_cons_zero]
  refine wpAnyH_ready (rs := [26]) (by kernel_rfl) (by simp) ?_
  refine AllReadyH.cons (i := 26) rfl (fun K hK => ?_) AllReadyH.nil
  try simp only [List.getElem_toArray, List.getElem_cons_succ, List.getElem_cons_zero]
  go_simp
  refine hK.out _ _ trivial (fun _ => ?_)
  clear hK K
  try simp only [List.getElem_toArray, List.getElem_cons_succ, List.getElem_cons_zero, Act.put, List.setIfInBounds_toArray, List.set_cons_succ, List.set_cons_zero]
  refine wpAnyH_ready (rs := [27]) (by kernel_rfl) (by simp) ?_
  refine AllReadyH.cons (i := 27) rfl (fun K hK => ?_) AllReadyH.nil
  refine step_app wr rfl (.tmp 81) (.tmp 107) 42 3 .i64 8 rfl slI N _ wl rfl hW [((y0 * 256 + y1) * 256 + y2) * 256 + y3] 1 1 3 rfl rfl rfl rfl rfl rfl (by rw [HWL.out]; omega) hbs2 ?_
  intro wv' w6 hW' hgrow hat
  refine hK.out _ _ trivial (fun _ => ?_)
  clear hK K
  try simp only [List.getElem_toArray, List.getElem_cons_succ, List.getElem_cons_zero, Act.put, List.setIfInBounds_toArray, List.set_cons_succ, List.set_cons_zero]
  refine wpAnyH_take (i := 28) (v := wv') rfl (by kernel_rfl) (by kernel_rfl) (by kernel_rfl) (fun _ _ _ h => h) (yields_of rfl (fun w' _ => by go_simp)) trivial ?_
  try simp only [List.getElem_toArray, List.getElem_cons_succ, List.getElem_cons_zero, Act.put, List.setIfInBounds_toArray, List.set_cons_succ, List.set_cons_zero]
  refine wpAnyH_done (by kernel_rfl) ?_ _
  all_goals go_wp2
  all_goals
    exact hK wv' _ _ (by go_num) hW' hgrow hat _ _ _ _ _ _ _ _ _ _ _ _ _ _ _ _ _ _ _ _ _ _ _ _ _ _ _ _ _ _ _ _ _ _ _ _ _ _ _ _ _ _ _ _ _ _ _ _ _ _ _ _ _ _ _ _ _ _ _ _ _ _ _ _ _ _ _ _ _ _ _ _ _ _ _ _ _ _ _ _ _ _ _ _ _ _ _ _
end Go.Proofs.YtaokemapkgggoaaGreatDoor
