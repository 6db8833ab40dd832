import Derived.Test.YtaokemapkgggoaaGreatDoorAl16
namespace Go.Proofs.YtaokemapkgggoaaGreatDoor
open Go.RowKit

set_option maxRecDepth 1000000 in
set_option maxHeartbeats 16000000 in
theorem sum_mix (g gk ck gw cw gv cv n t : Nat) (wr : World) (kt wt a0 a1 a2 a3 a4 a5 a6 a7 : Int)
    (cK1 : wr.cell? ⟨g, 0, none⟩ = some (.slice (some ⟨gk, 0, none⟩) 64 ck)) (cK2 : wr.cell? ⟨gk, n, none⟩ = some (.int .i64 kt)) (cW : wr.cell? ⟨gw, n, none⟩ = some (.int .i64 wt))
    (c0 : wr.cell? ⟨gv, 0, none⟩ = some (.int .i64 a0)) (c1 : wr.cell? ⟨gv, 1, none⟩ = some (.int .i64 a1)) (c2 : wr.cell? ⟨gv, 2, none⟩ = some (.int .i64 a2)) (c3 : wr.cell? ⟨gv, 3, none⟩ = some (.int .i64 a3)) (c4 : wr.cell? ⟨gv, 4, none⟩ = some (.int .i64 a4)) (c5 : wr.cell? ⟨gv, 5, none⟩ = some (.int .i64 a5)) (c6 : wr.cell? ⟨gv, 6, none⟩ = some (.int .i64 a6)) (c7 : wr.cell? ⟨gv, 7, none⟩ = some (.int .i64 a7))
    (ka : 0 ≤ kt) (kb : kt < 4294967296) (wa : 0 ≤ wt) (wb : wt < 4294967296)
    (u0 : isW a0) (u1 : isW a1) (u2 : isW a2) (u3 : isW a3) (u4 : isW a4) (u5 : isW a5) (u6 : isW a6) (u7 : isW a7)
    (hlt5 : n < 64) (hnt : (n : Int) < t)
    (K : Exit → Act → World → Prop) (e1 e2 e3 e4 e5 e6 e7 e8 e9 e10 e12 e13 e14 e15 e16 e17 e27 e28 e29 e30 e31 e32 e33 e34 e35 e36 e37 e38 e39 e40 e41 e42 e43 e44 e45 e46 e47 e48 e49 e50 e51 e52 e53 e54 e55 e56 e57 e58 e59 e60 e61 e62 e63 e64 e65 e66 e67 e68 e69 e70 e71 e72 e73 e74 e75 e76 e77 e78 e79 e80 e81 e82 e83 e84 e85 e86 e87 e88 e89 e90 e91 e92 e93 e94 e95 e96 e97 e98 e99 e100 e101 e102 e103 e104 e105 e106 e107 e108 e109 e110 e111 e112 e113 e114 e115 e116 e117 e118 e119 e120 e121 e122 e123 e124 e125 e126 e127 e128 e129 e130 e131 e132 e133 e134 e135 e136 e137 e138 e139 e140 e141 e142 e143 e144 e145 e146 e147 e148 e149 e150 e151 e152 e153 e154 e155 e156 e265 e266 e267 e268 e269 e270 e271 e272 e273 e274 e275 e276 e277 e278 e279 e280 e281 e282 e283 e284 e285 e286 e287 e288 e289 e290 e291 e292 e293 e294 e295 e296 e297 e298 e299 e300 e301 e302 e303 e304 e305 e306 e307 e308 e309 e310 e311 e312 e313 e314 e315 e316 u20 u21 u22 u23 u24 u25 u26 u157 u158 u159 u160 u161 u162 u163 u164 u165 u166 u167 u168 u169 u170 u171 u172 u173 u174 u175 u176 u177 u178 u179 u180 u181 u182 u183 u184 u185 u186 u187 u188 u189 u190 u191 u192 u193 u194 u195 u196 u197 u198 u199 u200 u201 u202 u203 u204 u205 u206 u207 u208 u209 u210 u211 u212 u213 u214 u215 u216 u217 u218 u219 u220 u221 u222 u223 u224 u225 u226 u227 u228 u229 u230 u231 u232 u233 u234 u235 u236 u237 u238 u239 u240 u241 u242 u243 u244 u245 u246 u247 u248 u249 u250 u251 u252 u253 u254 u255 u256 u257 u258 u259 u260 u261 u262 u263 u264 : Value)
    (hK : ∀ (v18 v19 : Value) (w' : World) (gv' cv' : Nat), v18 = .slice (some ⟨gv', 0, none⟩) 8 cv' → v19 = .int .i64 ((n + 1 : Nat) : Int) → gv' = wr.heap.size → gv' < w'.heap.size → At w' gv' (turn1 kt wt [a0, a1, a2, a3, a4, a5, a6, a7]) → Below wr.heap.size wr w' → ∀ v20 v21 v22 v23 v24 v25 v26 v157 v158 v159 v160 v161 v162 v163 v164 v165 v166 v167 v168 v169 v170 v171 v172 v173 v174 v175 v176 v177 v178 v179 v180 v181 v182 v183 v184 v185 v186 v187 v188 v189 v190 v191 v192 v193 v194 v195 v196 v197 v198 v199 v200 v201 v202 v203 v204 v205 v206 v207 v208 v209 v210 v211 v212 v213 v214 v215 v216 v217 v218 v219 v220 v221 v222 v223 v224 v225 v226 v227 v228 v229 v230 v231 v232 v233 v234 v235 v236 v237 v238 v239 v240 v241 v242 v243 v244 v245 v246 v247 v248 v249 v250 v251 v252 v253 v254 v255 v256 v257 v258 v259 v260 v261 v262 v263 v264 : Value, K .normal (Act.mk (List.toArray (Value.pointer (some ⟨g, 0, none⟩) :: e1 :: e2 :: e3 :: e4 :: e5 :: e6 :: e7 :: e8 :: e9 :: e10 :: Value.slice (some ⟨gw, 0, none⟩) t cw :: e12 :: e13 :: e14 :: e15 :: e16 :: e17 :: v18 :: v19 :: v20 :: v21 :: v22 :: v23 :: v24 :: v25 :: v26 :: e27 :: e28 :: e29 :: e30 :: e31 :: e32 :: e33 :: e34 :: e35 :: e36 :: e37 :: e38 :: e39 :: e40 :: e41 :: e42 :: e43 :: e44 :: e45 :: e46 :: e47 :: e48 :: e49 :: e50 :: e51 :: e52 :: e53 :: e54 :: e55 :: e56 :: e57 :: e58 :: e59 :: e60 :: e61 :: e62 :: e63 :: e64 :: e65 :: e66 :: e67 :: e68 :: e69 :: e70 :: e71 :: e72 :: e73 :: e74 :: e75 :: e76 :: e77 :: e78 :: e79 :: e80 :: e81 :: e82 :: e83 :: e84 :: e85 :: e86 :: e87 :: e88 :: e89 :: e90 :: e91 :: e92 :: e93 :: e94 :: e95 :: e96 :: e97 :: e98 :: e99 :: e100 :: e101 :: e102 :: e103 :: e104 :: e105 :: e106 :: e107 :: e108 :: e109 :: e110 :: e111 :: e112 :: e113 :: e114 :: e115 :: e116 :: e117 :: e118 :: e119 :: e120 :: e121 :: e122 :: e123 :: e124 :: e125 :: e126 :: e127 :: e128 :: e129 :: e130 :: e131 :: e132 :: e133 :: e134 :: e135 :: e136 :: e137 :: e138 :: e139 :: e140 :: e141 :: e142 :: e143 :: e144 :: e145 :: e146 :: e147 :: e148 :: e149 :: e150 :: e151 :: e152 :: e153 :: e154 :: e155 :: e156 :: v157 :: v158 :: v159 :: v160 :: v161 :: v162 :: v163 :: v164 :: v165 :: v166 :: v167 :: v168 :: v169 :: v170 :: v171 :: v172 :: v173 :: v174 :: v175 :: v176 :: v177 :: v178 :: v179 :: v180 :: v181 :: v182 :: v183 :: v184 :: v185 :: v186 :: v187 :: v188 :: v189 :: v190 :: v191 :: v192 :: v193 :: v194 :: v195 :: v196 :: v197 :: v198 :: v199 :: v200 :: v201 :: v202 :: v203 :: v204 :: v205 :: v206 :: v207 :: v208 :: v209 :: v210 :: v211 :: v212 :: v213 :: v214 :: v215 :: v216 :: v217 :: v218 :: v219 :: v220 :: v221 :: v222 :: v223 :: v224 :: v225 :: v226 :: v227 :: v228 :: v229 :: v230 :: v231 :: v232 :: v233 :: v234 :: v235 :: v236 :: v237 :: v238 :: v239 :: v240 :: v241 :: v242 :: v243 :: v244 :: v245 :: v246 :: v247 :: v248 :: v249 :: v250 :: v251 :: v252 :: v253 :: v254 :: v255 :: v256 :: v257 :: v258 :: v259 :: v260 :: v261 :: v262 :: v263 :: v264 :: e265 :: e266 :: e267 :: e268 :: e269 :: e270 :: e271 :: e272 :: e273 :: e274 :: e275 :: e276 :: e277 :: e278 :: e279 :: e280 :: e281 :: e282 :: e283 :: e284 :: e285 :: e286 :: e287 :: e288 :: e289 :: e290 :: e291 :: e292 :: e293 :: e294 :: e295 :: e296 :: e297 :: e298 :: e299 :: e300 :: e301 :: e302 :: e303 :: e304 :: e305 :: e306 :: e307 :: e308 :: e309 :: e310 :: e311 :: e312 :: e313 :: e314 :: e315 :: e316 :: [])) []) w') :
    Code.wp Tryz.prog (sumMix Tryz.f14) K (Act.mk (List.toArray (Value.pointer (some ⟨g, 0, none⟩) :: e1 :: e2 :: e3 :: e4 :: e5 :: e6 :: e7 :: e8 :: e9 :: e10 :: Value.slice (some ⟨gw, 0, none⟩) t cw :: e12 :: e13 :: e14 :: e15 :: e16 :: e17 :: Value.slice (some ⟨gv, 0, none⟩) 8 cv :: Value.int .i64 n :: u20 :: u21 :: u22 :: u23 :: u24 :: u25 :: u26 :: e27 :: e28 :: e29 :: e30 :: e31 :: e32 :: e33 :: e34 :: e35 :: e36 :: e37 :: e38 :: e39 :: e40 :: e41 :: e42 :: e43 :: e44 :: e45 :: e46 :: e47 :: e48 :: e49 :: e50 :: e51 :: e52 :: e53 :: e54 :: e55 :: e56 :: e57 :: e58 :: e59 :: e60 :: e61 :: e62 :: e63 :: e64 :: e65 :: e66 :: e67 :: e68 :: e69 :: e70 :: e71 :: e72 :: e73 :: e74 :: e75 :: e76 :: e77 :: e78 :: e79 :: e80 :: e81 :: e82 :: e83 :: e84 :: e85 :: e86 :: e87 :: e88 :: e89 :: e90 :: e91 :: e92 :: e93 :: e94 :: e95 :: e96 :: e97 :: e98 :: e99 :: e100 :: e101 :: e102 :: e103 :: e104 :: e105 :: e106 :: e107 :: e108 :: e109 :: e110 :: e111 :: e112 :: e113 :: e114 :: e115 :: e116 :: e117 :: e118 :: e119 :: e120 :: e121 :: e122 :: e123 :: e124 :: e125 :: e126 :: e127 :: e128 :: e129 :: e130 :: e131 :: e132 :: e133 :: e134 :: e135 :: e136 :: e137 :: e138 :: e139 :: e140 :: e141 :: e142 :: e143 :: e144 :: e145 :: e146 :: e147 :: e148 :: e149 :: e150 :: e151 :: e152 :: e153 :: e154 :: e155 :: e156 :: u157 :: u158 :: u159 :: u160 :: u161 :: u162 :: u163 :: u164 :: u165 :: u166 :: u167 :: u168 :: u169 :: u170 :: u171 :: u172 :: u173 :: u174 :: u175 :: u176 :: u177 :: u178 :: u179 :: u180 :: u181 :: u182 :: u183 :: u184 :: u185 :: u186 :: u187 :: u188 :: u189 :: u190 :: u191 :: u192 :: u193 :: u194 :: u195 :: u196 :: u197 :: u198 :: u199 :: u200 :: u201 :: u202 :: u203 :: u204 :: u205 :: u206 :: u207 :: u208 :: u209 :: u210 :: u211 :: u212 :: u213 :: u214 :: u215 :: u216 :: u217 :: u218 :: u219 :: u220 :: u221 :: u222 :: u223 :: u224 :: u225 :: u226 :: u227 :: u228 :: u229 :: u230 :: u231 :: u232 :: u233 :: u234 :: u235 :: u236 :: u237 :: u238 :: u239 :: u240 :: u241 :: u242 :: u243 :: u244 :: u245 :: u246 :: u247 :: u248 :: u249 :: u250 :: u251 :: u252 :: u253 :: u254 :: u255 :: u256 :: u257 :: u258 :: u259 :: u260 :: u261 :: u262 :: u263 :: u264 :: e265 :: e266 :: e267 :: e268 :: e269 :: e270 :: e271 :: e272 :: e273 :: e274 :: e275 :: e276 :: e277 :: e278 :: e279 :: e280 :: e281 :: e282 :: e283 :: e284 :: e285 :: e286 :: e287 :: e288 :: e289 :: e290 :: e291 :: e292 :: e293 :: e294 :: e295 :: e296 :: e297 :: e298 :: e299 :: e300 :: e301 :: e302 :: e303 :: e304 :: e305 :: e306 :: e307 :: e308 :: e309 :: e310 :: e311 :: e312 :: e313 :: e314 :: e315 :: e316 :: [])) []) wr := by
  conv => arg 2; whnf
  have s1' := rr_w 6 (by omega) u4
  have s2' := rr_w 11 (by omega) u4
  have s3' := rr_w 25 (by omega) u4
  have s4' := xr_w s1' s2'
  have s5' := rr_w 2 (by omega) u0
  have s6' := rr_w 13 (by omega) u0
  have s7' := rr_w 22 (by omega) u0
  have s8' := xr_w s5' s6'
  have m1' : isW (an a4 a5) := an_w u5
  have m2' : isW (4294967295 - a4) := by unfold isW at *; omega
  have m3' : isW (an (4294967295 - a4) a6) := an_w u6
  have m4' : isW (an a0 a1) := an_w u1
  have m5' : isW (an a0 a2) := an_w u2
  have m6' := xr_w m4' m5'
  have m7' : isW (an a1 a2) := an_w u2
  have hE1 : xr (xr (rr 6 a4) (rr 11 a4)) (rr 25 a4) = bigE a4 := rfl
  have hE2 : xr (an a4 a5) (an (4294967295 - a4) a6) = choose a4 a5 a6 := rfl
  have hE3 : xr (xr (rr 2 a0) (rr 13 a0)) (rr 22 a0) = bigA a0 := rfl
  have hE4 : xr (xr (an a0 a1) (an a0 a2)) (an a1 a2) = most a0 a1 a2 := rfl
  obtain ⟨z1, z1'⟩ := bigE_w u4
  obtain ⟨z2, z2'⟩ := choose_w (e := a4) u5 u6
  obtain ⟨z3, z3'⟩ := bigA_w u0
  obtain ⟨z4, z4'⟩ := most_w (a := a0) u1 u2
  have y0 := u0
  obtain ⟨v3, v3'⟩ := u3
  obtain ⟨v4, v4'⟩ := id u4
  obtain ⟨v7, v7'⟩ := u7
  have hn64 : (n : Int) < 64 := by omega
  have hn0 : (0 : Int) ≤ n := by omega
  go_wp2_with (first | (go_at_call 41; refine (ref_right _ _ _ (by assumption) (by omega) (by omega)).mono ?_; rintro _ _ ⟨rfl, q, rfl⟩) | (go_at_call 40; refine (ref_xor _ _ _ (by assumption) (by assumption)).mono ?_; rintro _ _ ⟨rfl, rfl⟩))
  go_quiet ((first | (go_at_call 43; refine (ref_and _ _ _ (by assumption) (by assumption)).mono ?_; rintro _ _ ⟨rfl, rfl⟩; exact ⟨rfl, _, rfl⟩) | (go_at_call 40; refine (ref_xor _ _ _ (by assumption) (by assumption)).mono ?_; rintro _ _ ⟨rfl, rfl⟩; exact ⟨rfl, _, rfl⟩)))
  simp only [hE2]
  have g1 := wrap_id (a7 + bigE a4) (by omega) (by omega)
  have g2 := wrap_id (a7 + bigE a4 + choose a4 a5 a6) (by omega) (by omega)
  have g3 := wrap_id (a7 + bigE a4 + choose a4 a5 a6 + kt) (by omega) (by omega)
  have g4 := wrap_id (a7 + bigE a4 + choose a4 a5 a6 + kt + wt) (by omega) (by omega)
  go_wp2
  go_quiet (fail)
  obtain ⟨X, HX⟩ : ∃ X, Hid (X = a7 + bigE a4 + choose a4 a5 a6 + kt + wt) := ⟨_, rfl⟩
  have x0 : 0 ≤ X := by rw [HX.out]; omega
  have x1 : X < 21474836480 := by rw [HX.out]; omega
  simp only [← HX.out]
  clear g1 g2 g3 g4 hE1 hE2 cK1 cK2 cW s1' s2' s3' s4' m1' m2' m3'
  go_wp2_with (first | (go_at_call 41; refine (ref_right _ _ _ (by assumption) (by omega) (by omega)).mono ?_; rintro _ _ ⟨rfl, q, rfl⟩) | (go_at_call 40; refine (ref_xor _ _ _ (by assumption) (by assumption)).mono ?_; rintro _ _ ⟨rfl, rfl⟩))
  go_quiet ((first | (go_at_call 43; refine (ref_and _ _ _ (by assumption) (by assumption)).mono ?_; rintro _ _ ⟨rfl, rfl⟩; exact ⟨rfl, _, rfl⟩) | (go_at_call 40; refine (ref_xor _ _ _ (by assumption) (by assumption)).mono ?_; rintro _ _ ⟨rfl, rfl⟩; exact ⟨rfl, _, rfl⟩)))
  simp only [hE4]
  have g5 := wrap_id (X + bigA a0) (by omega) (by omega)
  have g6 := wrap_id (X + bigA a0 + most a0 a1 a2) (by omega) (by omega)
  have g7 := wrap_id (a3 + X) (by omega) (by omega)
  have g8 : (X + bigA a0 + most a0 a1 a2).tmod 4294967296 = (X + bigA a0 + most a0 a1 a2) % 4294967296 := Int.tmod_eq_emod_of_nonneg (by omega)
  have g9' : (a3 + X).tmod 4294967296 = (a3 + X) % 4294967296 := Int.tmod_eq_emod_of_nonneg (by omega)
  have HT : Hid (turn1 kt wt [a0, a1, a2, a3, a4, a5, a6, a7] = [(X + bigA a0 + most a0 a1 a2) % 4294967296, a0, a1, a2, (a3 + X) % 4294967296, a4, a5, a6]) := by show _ = _; rw [HX.out]; rfl
  generalize bigA a0 = A at *
  generalize most a0 a1 a2 = M at *
  clear hE3 hE4 s5' s6' s7' s8' m4' m5' m6' m7'
  go_wp2
  go_region_held3 (fun w' => w'.cell? ⟨gv, 0, none⟩ = some (.int .i64 a0) ∧ w'.cell? ⟨gv, 1, none⟩ = some (.int .i64 a1) ∧ w'.cell? ⟨gv, 2, none⟩ = some (.int .i64 a2) ∧ w'.cell? ⟨gv, 3, none⟩ = some (.int .i64 a3) ∧ w'.cell? ⟨gv, 4, none⟩ = some (.int .i64 a4) ∧ w'.cell? ⟨gv, 5, none⟩ = some (.int .i64 a5) ∧ w'.cell? ⟨gv, 6, none⟩ = some (.int .i64 a6)) (first | exact ⟨c0, c1, c2, c3, c4, c5, c6⟩ | go_keep) (fail)
  all_goals go_wp2
  all_goals
    refine hK _ _ _ wr.heap.size 8 rfl (by go_num) rfl (Row.made (wr.drewN _) (i64s [(X + A + M) % 4294967296, a0, a1, a2, (a3 + X) % 4294967296, a4, a5, a6]) 3).lt ?_ ?_ _ _ _ _ _ _ _ _ _ _ _ _ _ _ _ _ _ _ _ _ _ _ _ _ _ _ _ _ _ _ _ _ _ _ _ _ _ _ _ _ _ _ _ _ _ _ _ _ _ _ _ _ _ _ _ _ _ _ _ _ _ _ _ _ _ _ _ _ _ _ _ _ _ _ _ _ _ _ _ _ _ _ _ _ _ _ _ _ _ _ _ _ _ _ _ _ _ _ _ _ _ _ _ _ _ _ _ _ _ _ _ _ _ _ _
    · rw [HT.out]
      exact (Row.made (wr.drewN _) (i64s [(X + A + M) % 4294967296, a0, a1, a2, (a3 + X) % 4294967296, a4, a5, a6]) 3).toAt
    · have hB0 := Below.refl wr.heap.size wr
      exact (show Below wr.heap.size wr (wr.drewN _) from ⟨hB0.os, hB0.tape, hB0.output, hB0.size, hB0.block⟩).alloc (Nat.le_refl _) _
end Go.Proofs.YtaokemapkgggoaaGreatDoor

namespace Go.Proofs.YtaokemapkgggoaaGreatDoor
open Go.RowKit

set_option maxRecDepth 1000000 in
set_option maxHeartbeats 16000000 in
theorem sum_mixes (g gk ck gw cw gv0 cv0 g9 : Nat) (wr : World) (wl hs : List Int)
    (cK1 : wr.cell? ⟨g, 0, none⟩ = some (.slice (some ⟨gk, 0, none⟩) 64 ck)) (hgl : g < wr.heap.size) (q3 : At wr gk K0) (q5 : gk < wr.heap.size)
    (A5 : At wr gw wl) (G5 : gw < wr.heap.size) (HWL64 : Hid (wl.length = 64)) (hwwl : ∀ x ∈ wl, isW x) (hw8 : W8 hs)
    (hAv0 : At wr gv0 hs) (hgv9 : g9 < gv0) (hgv1 : gv0 < wr.heap.size)
    (K : Exit → Act → World → Prop) (e1 e2 e3 e4 e5 e6 e7 e8 e9 e10 e12 e13 e14 e15 e16 e17 e27 e28 e29 e30 e31 e32 e33 e34 e35 e36 e37 e38 e39 e40 e41 e42 e43 e44 e45 e46 e47 e48 e49 e50 e51 e52 e53 e54 e55 e56 e57 e58 e59 e60 e61 e62 e63 e64 e65 e66 e67 e68 e69 e70 e71 e72 e73 e74 e75 e76 e77 e78 e79 e80 e81 e82 e83 e84 e85 e86 e87 e88 e89 e90 e91 e92 e93 e94 e95 e96 e97 e98 e99 e100 e101 e102 e103 e104 e105 e106 e107 e108 e109 e110 e111 e112 e113 e114 e115 e116 e117 e118 e119 e120 e121 e122 e123 e124 e125 e126 e127 e128 e129 e130 e131 e132 e133 e134 e135 e136 e137 e138 e139 e140 e141 e142 e143 e144 e145 e146 e147 e148 e149 e150 e151 e152 e153 e154 e155 e156 e265 e266 e267 e268 e269 e270 e271 e272 e273 e274 e275 e276 e277 e278 e279 e280 e281 e282 e283 e284 e285 e286 e287 e288 e289 e290 e291 e292 e293 e294 e295 e296 e297 e298 e299 e300 e301 e302 e303 e304 e305 e306 e307 e308 e309 e310 e311 e312 e313 e314 e315 e316 u20 u21 u22 u23 u24 u25 u26 u157 u158 u159 u160 u161 u162 u163 u164 u165 u166 u167 u168 u169 u170 u171 u172 u173 u174 u175 u176 u177 u178 u179 u180 u181 u182 u183 u184 u185 u186 u187 u188 u189 u190 u191 u192 u193 u194 u195 u196 u197 u198 u199 u200 u201 u202 u203 u204 u205 u206 u207 u208 u209 u210 u211 u212 u213 u214 u215 u216 u217 u218 u219 u220 u221 u222 u223 u224 u225 u226 u227 u228 u229 u230 u231 u232 u233 u234 u235 u236 u237 u238 u239 u240 u241 u242 u243 u244 u245 u246 u247 u248 u249 u250 u251 u252 u253 u254 u255 u256 u257 u258 u259 u260 u261 u262 u263 u264 : Value)
    (hK : ∀ (v18 v19 : Value) (w' : World) (gv cv : Nat), v18 = .slice (some ⟨gv, 0, none⟩) 8 cv → g9 < gv → gv < w'.heap.size → At w' gv (rounds K0 wl hs 64) → Below wr.heap.size wr w' → ∀ v20 v21 v22 v23 v24 v25 v26 v157 v158 v159 v160 v161 v162 v163 v164 v165 v166 v167 v168 v169 v170 v171 v172 v173 v174 v175 v176 v177 v178 v179 v180 v181 v182 v183 v184 v185 v186 v187 v188 v189 v190 v191 v192 v193 v194 v195 v196 v197 v198 v199 v200 v201 v202 v203 v204 v205 v206 v207 v208 v209 v210 v211 v212 v213 v214 v215 v216 v217 v218 v219 v220 v221 v222 v223 v224 v225 v226 v227 v228 v229 v230 v231 v232 v233 v234 v235 v236 v237 v238 v239 v240 v241 v242 v243 v244 v245 v246 v247 v248 v249 v250 v251 v252 v253 v254 v255 v256 v257 v258 v259 v260 v261 v262 v263 v264 : Value, K (.exit 8) (Act.mk (List.toArray (Value.pointer (some ⟨g, 0, none⟩) :: e1 :: e2 :: e3 :: e4 :: e5 :: e6 :: e7 :: e8 :: e9 :: e10 :: Value.slice (some ⟨gw, 0, none⟩) 64 cw :: e12 :: e13 :: e14 :: e15 :: e16 :: e17 :: v18 :: v19 :: v20 :: v21 :: v22 :: v23 :: v24 :: v25 :: v26 :: e27 :: e28 :: e29 :: e30 :: e31 :: e32 :: e33 :: e34 :: e35 :: e36 :: e37 :: e38 :: e39 :: e40 :: e41 :: e42 :: e43 :: e44 :: e45 :: e46 :: e47 :: e48 :: e49 :: e50 :: e51 :: e52 :: e53 :: e54 :: e55 :: e56 :: e57 :: e58 :: e59 :: e60 :: e61 :: e62 :: e63 :: e64 :: e65 :: e66 :: e67 :: e68 :: e69 :: e70 :: e71 :: e72 :: e73 :: e74 :: e75 :: e76 :: e77 :: e78 :: e79 :: e80 :: e81 :: e82 :: e83 :: e84 :: e85 :: e86 :: e87 :: e88 :: e89 :: e90 :: e91 :: e92 :: e93 :: e94 :: e95 :: e96 :: e97 :: e98 :: e99 :: e100 :: e101 :: e102 :: e103 :: e104 :: e105 :: e106 :: e107 :: e108 :: e109 :: e110 :: e111 :: e112 :: e113 :: e114 :: e115 :: e116 :: e117 :: e118 :: e119 :: e120 :: e121 :: e122 :: e123 :: e124 :: e125 :: e126 :: e127 :: e128 :: e129 :: e130 :: e131 :: e132 :: e133 :: e134 :: e135 :: e136 :: e137 :: e138 :: e139 :: e140 :: e141 :: e142 :: e143 :: e144 :: e145 :: e146 :: e147 :: e148 :: e149 :: e150 :: e151 :: e152 :: e153 :: e154 :: e155 :: e156 :: v157 :: v158 :: v159 :: v160 :: v161 :: v162 :: v163 :: v164 :: v165 :: v166 :: v167 :: v168 :: v169 :: v170 :: v171 :: v172 :: v173 :: v174 :: v175 :: v176 :: v177 :: v178 :: v179 :: v180 :: v181 :: v182 :: v183 :: v184 :: v185 :: v186 :: v187 :: v188 :: v189 :: v190 :: v191 :: v192 :: v193 :: v194 :: v195 :: v196 :: v197 :: v198 :: v199 :: v200 :: v201 :: v202 :: v203 :: v204 :: v205 :: v206 :: v207 :: v208 :: v209 :: v210 :: v211 :: v212 :: v213 :: v214 :: v215 :: v216 :: v217 :: v218 :: v219 :: v220 :: v221 :: v222 :: v223 :: v224 :: v225 :: v226 :: v227 :: v228 :: v229 :: v230 :: v231 :: v232 :: v233 :: v234 :: v235 :: v236 :: v237 :: v238 :: v239 :: v240 :: v241 :: v242 :: v243 :: v244 :: v245 :: v246 :: v247 :: v248 :: v249 :: v250 :: v251 :: v252 :: v253 :: v254 :: v255 :: v256 :: v257 :: v258 :: v259 :: v260 :: v261 :: v262 :: v263 :: v264 :: e265 :: e266 :: e267 :: e268 :: e269 :: e270 :: e271 :: e272 :: e273 :: e274 :: e275 :: e276 :: e277 :: e278 :: e279 :: e280 :: e281 :: e282 :: e283 :: e284 :: e285 :: e286 :: e287 :: e288 :: e289 :: e290 :: e291 :: e292 :: e293 :: e294 :: e295 :: e296 :: e297 :: e298 :: e299 :: e300 :: e301 :: e302 :: e303 :: e304 :: e305 :: e306 :: e307 :: e308 :: e309 :: e310 :: e311 :: e312 :: e313 :: e314 :: e315 :: e316 :: [])) []) w') :
    Code.wp Tryz.prog (.loop (sumMix Tryz.f14)) K (Act.mk (List.toArray (Value.pointer (some ⟨g, 0, none⟩) :: e1 :: e2 :: e3 :: e4 :: e5 :: e6 :: e7 :: e8 :: e9 :: e10 :: Value.slice (some ⟨gw, 0, none⟩) 64 cw :: e12 :: e13 :: e14 :: e15 :: e16 :: e17 :: Value.slice (some ⟨gv0, 0, none⟩) 8 cv0 :: Value.int .i64 0 :: u20 :: u21 :: u22 :: u23 :: u24 :: u25 :: u26 :: e27 :: e28 :: e29 :: e30 :: e31 :: e32 :: e33 :: e34 :: e35 :: e36 :: e37 :: e38 :: e39 :: e40 :: e41 :: e42 :: e43 :: e44 :: e45 :: e46 :: e47 :: e48 :: e49 :: e50 :: e51 :: e52 :: e53 :: e54 :: e55 :: e56 :: e57 :: e58 :: e59 :: e60 :: e61 :: e62 :: e63 :: e64 :: e65 :: e66 :: e67 :: e68 :: e69 :: e70 :: e71 :: e72 :: e73 :: e74 :: e75 :: e76 :: e77 :: e78 :: e79 :: e80 :: e81 :: e82 :: e83 :: e84 :: e85 :: e86 :: e87 :: e88 :: e89 :: e90 :: e91 :: e92 :: e93 :: e94 :: e95 :: e96 :: e97 :: e98 :: e99 :: e100 :: e101 :: e102 :: e103 :: e104 :: e105 :: e106 :: e107 :: e108 :: e109 :: e110 :: e111 :: e112 :: e113 :: e114 :: e115 :: e116 :: e117 :: e118 :: e119 :: e120 :: e121 :: e122 :: e123 :: e124 :: e125 :: e126 :: e127 :: e128 :: e129 :: e130 :: e131 :: e132 :: e133 :: e134 :: e135 :: e136 :: e137 :: e138 :: e139 :: e140 :: e141 :: e142 :: e143 :: e144 :: e145 :: e146 :: e147 :: e148 :: e149 :: e150 :: e151 :: e152 :: e153 :: e154 :: e155 :: e156 :: u157 :: u158 :: u159 :: u160 :: u161 :: u162 :: u163 :: u164 :: u165 :: u166 :: u167 :: u168 :: u169 :: u170 :: u171 :: u172 :: u173 :: u174 :: u175 :: u176 :: u177 :: u178 :: u179 :: u180 :: u181 :: u182 :: u183 :: u184 :: u185 :: u186 :: u187 :: u188 :: u189 :: u190 :: u191 :: u192 :: u193 :: u194 :: u195 :: u196 :: u197 :: u198 :: u199 :: u200 :: u201 :: u202 :: u203 :: u204 :: u205 :: u206 :: u207 :: u208 :: u209 :: u210 :: u211 :: u212 :: u213 :: u214 :: u215 :: u216 :: u217 :: u218 :: u219 :: u220 :: u221 :: u222 :: u223 :: u224 :: u225 :: u226 :: u227 :: u228 :: u229 :: u230 :: u231 :: u232 :: u233 :: u234 :: u235 :: u236 :: u237 :: u238 :: u239 :: u240 :: u241 :: u242 :: u243 :: u244 :: u245 :: u246 :: u247 :: u248 :: u249 :: u250 :: u251 :: u252 :: u253 :: u254 :: u255 :: u256 :: u257 :: u258 :: u259 :: u260 :: u261 :: u262 :: u263 :: u264 :: e265 :: e266 :: e267 :: e268 :: e269 :: e270 :: e271 :: e272 :: e273 :: e274 :: e275 :: e276 :: e277 :: e278 :: e279 :: e280 :: e281 :: e282 :: e283 :: e284 :: e285 :: e286 :: e287 :: e288 :: e289 :: e290 :: e291 :: e292 :: e293 :: e294 :: e295 :: e296 :: e297 :: e298 :: e299 :: e300 :: e301 :: e302 :: e303 :: e304 :: e305 :: e306 :: e307 :: e308 :: e309 :: e310 :: e311 :: e312 :: e313 :: e314 :: e315 :: e316 :: [])) []) wr := by
  conv => arg 2; arg 1; whnf
  obtain ⟨r, HR⟩ : ∃ r : Nat → List Int, Hid (r = rounds K0 wl hs) := ⟨_, rfl⟩
  have hrw : ∀ t, W8 (r t) := by rw [HR.out]; exact fun t => hw8.rounds K0 wl t
  have HR0 : Hid (r 0 = hs) := by show _ = _; rw [HR.out]; rfl
  have HRS : Hid (∀ t, r (t + 1) = turn1 (K0.getD t 0) (wl.getD t 0) (r t)) := by rw [HR.out]; exact fun t => rfl
  obtain ⟨w5, HW5⟩ : ∃ w5, Hid (w5 = wr) := ⟨_, rfl⟩
  rw [← HW5.out] at cK1 q3 A5 G5 hgl q5
  rw [← HW5.out] at hK
  go_loopw [18, 19] (fun vv c ws => ∃ (n gv cv : Nat), n ≤ 64 ∧ c = .int .i64 n ∧ vv = .slice (some ⟨gv, 0, none⟩) 8 cv ∧ g9 < gv ∧ gv < ws.heap.size ∧ At ws gv (r n) ∧ Below w5.heap.size w5 ws) (fun _ c _ => 64 - (intOf c).toNat)
  case atStart => exact ⟨0, gv0, cv0, by omega, rfl, rfl, hgv9, hgv1, by rw [HR0.out]; exact hAv0, by rw [HW5.out]; exact Below.refl _ _⟩
  case round =>
    clear hAv0 hgv9 hgv1
    obtain ⟨n, gv, cv, hn, rfl, rfl, hgv9, hgv, hAv, hB5⟩ := hrel
    by_cases hlt5 : n < 64
    · have HS := HRS.out n
      obtain ⟨ka, kb⟩ := getD_isW K0_w n
      obtain ⟨wa, wb⟩ := getD_isW hwwl n
      obtain ⟨a0, a1, a2, a3, a4, a5, a6, a7, hv8, b0, b1, b2, b3, b4, b5, b6, b7⟩ := (hrw n).open
      rw [hv8] at hAv HS
      have HS' : Hid _ := HS
      clear HS hv8
      refine sum_mix g gk ck gw cw gv cv n 64 wr _ _ a0 a1 a2 a3 a4 a5 a6 a7 ((hB5.cell (p := ⟨g, 0, none⟩) hgl).trans cK1) ((q3.below hB5 q5) n hlt5) ((A5.below hB5 G5) n (by rw [HWL64.out]; exact hlt5)) (hAv 0 (by simp)) (hAv 1 (by simp)) (hAv 2 (by simp)) (hAv 3 (by simp)) (hAv 4 (by simp)) (hAv 5 (by simp)) (hAv 6 (by simp)) (hAv 7 (by simp)) ka kb wa wb b0 b1 b2 b3 b4 b5 b6 b7 hlt5 (by omega) _ _ _ _ _ _ _ _ _ _ _ _ _ _ _ _ _ _ _ _ _ _ _ _ _ _ _ _ _ _ _ _ _ _ _ _ _ _ _ _ _ _ _ _ _ _ _ _ _ _ _ _ _ _ _ _ _ _ _ _ _ _ _ _ _ _ _ _ _ _ _ _ _ _ _ _ _ _ _ _ _ _ _ _ _ _ _ _ _ _ _ _ _ _ _ _ _ _ _ _ _ _ _ _ _ _ _ _ _ _ _ _ _ _ _ _ _ _ _ _ _ _ _ _ _ _ _ _ _ _ _ _ _ _ _ _ _ _ _ _ _ _ _ _ _ _ _ _ _ _ _ _ _ _ _ _ _ _ _ _ _ _ _ _ _ _ _ _ _ _ _ _ _ _ _ _ _ _ _ _ _ _ _ _ _ _ _ _ _ _ _ _ _ _ _ _ _ _ _ _ _ _ _ _ _ _ _ _ _ _ _ _ _ _ _ _ _ _ _ _ _ _ _ _ _ _ _ _ _ _ _ _ _ _ _ _ _ _ _ _ _ _ _ _ _ _ _ _ _ _ _ _ _ _ _ _ _ _ _ _ _ _ _ _ _ _ _ _ _ _ _ _ _ _ _ _ _ _ _ _ _ _ _ _ _ _ _ _ _ _ _ _ _ _ _ _ _ _ _ _ _ _ _ _ _ _ _ _ _ _ _ _ _ _ ?_
      intro v18 v19 w' gv' cv' h18 h19 hg' hl' hA' hB'
      intros
      subst h18
      subst h19
      have hb5 := hB5.trans (hB'.mono hB5.size)
      rw [← HS'.out] at hA'
      go_wp2
      refine ⟨⟨n + 1, gv', cv', by omega, rfl, rfl, by omega, hl', hA', hb5⟩, by simp [intOf]; omega⟩
    · have hn64 : n = 64 := by omega
      have hdn : decide ((n : Int) < 64) = false := by simp; omega
      have hA64 : At wr gv (rounds K0 wl hs 64) := by rw [← hn64, ← HR.out]; exact hAv
      clear hAv
      go_wp2
      exact hK _ _ wr gv cv rfl hgv9 hgv hA64 hB5 _ _ _ _ _ _ _ _ _ _ _ _ _ _ _ _ _ _ _ _ _ _ _ _ _ _ _ _ _ _ _ _ _ _ _ _ _ _ _ _ _ _ _ _ _ _ _ _ _ _ _ _ _ _ _ _ _ _ _ _ _ _ _ _ _ _ _ _ _ _ _ _ _ _ _ _ _ _ _ _ _ _ _ _ _ _ _ _ _ _ _ _ _ _ _ _ _ _ _ _ _ _ _ _ _ _ _ _ _ _ _ _ _ _ _
end Go.Proofs.YtaokemapkgggoaaGreatDoor

namespace Go.Proofs.YtaokemapkgggoaaGreatDoor
open Go.RowKit

set_option maxRecDepth 1000000 in
set_option maxHeartbeats 16000000 in
theorem sum_adds (g9 c9 gv cv : Nat) (w wr : World) (hs sv : List Int) (hw8 : W8 hs) (hs8 : W8 sv) (C6 : Cells9 wr g9 hs) (hAv : At wr gv sv) (Bww : Below w.heap.size w wr) (hgv9 : g9 < gv) (b9 : w.heap.size ≤ g9)
    (K : Exit → Act → World → Prop) (e0 e1 e2 e3 e4 e5 e6 e7 e8 e10 e11 e12 e13 e14 e15 e16 e17 e19 e20 e21 e22 e23 e24 e25 e26 e28 e29 e30 e31 e32 e33 e34 e35 e36 e37 e38 e39 e40 e41 e42 e43 e44 e45 e46 e47 e48 e49 e50 e51 e52 e53 e54 e55 e56 e57 e58 e59 e60 e61 e62 e63 e64 e65 e66 e67 e68 e69 e70 e71 e72 e73 e74 e75 e76 e77 e78 e79 e80 e81 e82 e83 e84 e85 e86 e87 e88 e89 e90 e91 e92 e93 e94 e95 e96 e97 e98 e99 e100 e101 e102 e103 e104 e105 e106 e107 e108 e109 e110 e111 e112 e113 e114 e115 e116 e117 e118 e119 e120 e121 e122 e123 e124 e125 e126 e127 e128 e129 e130 e131 e132 e133 e134 e135 e136 e137 e138 e139 e140 e141 e142 e143 e144 e145 e146 e147 e148 e149 e150 e151 e152 e153 e154 e155 e156 e157 e158 e159 e160 e161 e162 e163 e164 e165 e166 e167 e168 e169 e170 e171 e172 e173 e174 e175 e176 e177 e178 e179 e180 e181 e182 e183 e184 e185 e186 e187 e188 e189 e190 e191 e192 e193 e194 e195 e196 e197 e198 e199 e200 e201 e202 e203 e204 e205 e206 e207 e208 e209 e210 e211 e212 e213 e214 e215 e216 e217 e218 e219 e220 e221 e222 e223 e224 e225 e226 e227 e228 e229 e230 e231 e232 e233 e234 e235 e236 e237 e238 e239 e240 e241 e242 e243 e244 e245 e246 e247 e248 e249 e250 e251 e252 e253 e254 e255 e256 e257 e258 e259 e260 e261 e262 e263 e264 e282 e283 e284 e285 e286 e287 e288 e289 e290 e291 e292 e293 e294 e295 e296 e297 e298 e299 e300 e301 e302 e303 e304 e305 e306 e307 e308 e309 e310 e311 e312 e313 e314 e315 e316 u265 u266 u267 u268 u269 u270 u271 u272 u273 u274 u275 u276 u277 u278 u279 u280 u281 : Value)
    (hK : ∀ (v27 : Value) (w' : World), Cells9 w' g9 (addTo hs sv 8) → Below w.heap.size w w' → ∀ v265 v266 v267 v268 v269 v270 v271 v272 v273 v274 v275 v276 v277 v278 v279 v280 v281 : Value, K (.exit 10) (Act.mk (List.toArray (e0 :: e1 :: e2 :: e3 :: e4 :: e5 :: e6 :: e7 :: e8 :: Value.slice (some ⟨g9, 0, none⟩) 8 c9 :: e10 :: e11 :: e12 :: e13 :: e14 :: e15 :: e16 :: e17 :: Value.slice (some ⟨gv, 0, none⟩) 8 cv :: e19 :: e20 :: e21 :: e22 :: e23 :: e24 :: e25 :: e26 :: v27 :: e28 :: e29 :: e30 :: e31 :: e32 :: e33 :: e34 :: e35 :: e36 :: e37 :: e38 :: e39 :: e40 :: e41 :: e42 :: e43 :: e44 :: e45 :: e46 :: e47 :: e48 :: e49 :: e50 :: e51 :: e52 :: e53 :: e54 :: e55 :: e56 :: e57 :: e58 :: e59 :: e60 :: e61 :: e62 :: e63 :: e64 :: e65 :: e66 :: e67 :: e68 :: e69 :: e70 :: e71 :: e72 :: e73 :: e74 :: e75 :: e76 :: e77 :: e78 :: e79 :: e80 :: e81 :: e82 :: e83 :: e84 :: e85 :: e86 :: e87 :: e88 :: e89 :: e90 :: e91 :: e92 :: e93 :: e94 :: e95 :: e96 :: e97 :: e98 :: e99 :: e100 :: e101 :: e102 :: e103 :: e104 :: e105 :: e106 :: e107 :: e108 :: e109 :: e110 :: e111 :: e112 :: e113 :: e114 :: e115 :: e116 :: e117 :: e118 :: e119 :: e120 :: e121 :: e122 :: e123 :: e124 :: e125 :: e126 :: e127 :: e128 :: e129 :: e130 :: e131 :: e132 :: e133 :: e134 :: e135 :: e136 :: e137 :: e138 :: e139 :: e140 :: e141 :: e142 :: e143 :: e144 :: e145 :: e146 :: e147 :: e148 :: e149 :: e150 :: e151 :: e152 :: e153 :: e154 :: e155 :: e156 :: e157 :: e158 :: e159 :: e160 :: e161 :: e162 :: e163 :: e164 :: e165 :: e166 :: e167 :: e168 :: e169 :: e170 :: e171 :: e172 :: e173 :: e174 :: e175 :: e176 :: e177 :: e178 :: e179 :: e180 :: e181 :: e182 :: e183 :: e184 :: e185 :: e186 :: e187 :: e188 :: e189 :: e190 :: e191 :: e192 :: e193 :: e194 :: e195 :: e196 :: e197 :: e198 :: e199 :: e200 :: e201 :: e202 :: e203 :: e204 :: e205 :: e206 :: e207 :: e208 :: e209 :: e210 :: e211 :: e212 :: e213 :: e214 :: e215 :: e216 :: e217 :: e218 :: e219 :: e220 :: e221 :: e222 :: e223 :: e224 :: e225 :: e226 :: e227 :: e228 :: e229 :: e230 :: e231 :: e232 :: e233 :: e234 :: e235 :: e236 :: e237 :: e238 :: e239 :: e240 :: e241 :: e242 :: e243 :: e244 :: e245 :: e246 :: e247 :: e248 :: e249 :: e250 :: e251 :: e252 :: e253 :: e254 :: e255 :: e256 :: e257 :: e258 :: e259 :: e260 :: e261 :: e262 :: e263 :: e264 :: v265 :: v266 :: v267 :: v268 :: v269 :: v270 :: v271 :: v272 :: v273 :: v274 :: v275 :: v276 :: v277 :: v278 :: v279 :: v280 :: v281 :: e282 :: e283 :: e284 :: e285 :: e286 :: e287 :: e288 :: e289 :: e290 :: e291 :: e292 :: e293 :: e294 :: e295 :: e296 :: e297 :: e298 :: e299 :: e300 :: e301 :: e302 :: e303 :: e304 :: e305 :: e306 :: e307 :: e308 :: e309 :: e310 :: e311 :: e312 :: e313 :: e314 :: e315 :: e316 :: [])) []) w') :
    Code.wp Tryz.prog (.loop (sumAdd Tryz.f14)) K (Act.mk (List.toArray (e0 :: e1 :: e2 :: e3 :: e4 :: e5 :: e6 :: e7 :: e8 :: Value.slice (some ⟨g9, 0, none⟩) 8 c9 :: e10 :: e11 :: e12 :: e13 :: e14 :: e15 :: e16 :: e17 :: Value.slice (some ⟨gv, 0, none⟩) 8 cv :: e19 :: e20 :: e21 :: e22 :: e23 :: e24 :: e25 :: e26 :: Value.int .i64 0 :: e28 :: e29 :: e30 :: e31 :: e32 :: e33 :: e34 :: e35 :: e36 :: e37 :: e38 :: e39 :: e40 :: e41 :: e42 :: e43 :: e44 :: e45 :: e46 :: e47 :: e48 :: e49 :: e50 :: e51 :: e52 :: e53 :: e54 :: e55 :: e56 :: e57 :: e58 :: e59 :: e60 :: e61 :: e62 :: e63 :: e64 :: e65 :: e66 :: e67 :: e68 :: e69 :: e70 :: e71 :: e72 :: e73 :: e74 :: e75 :: e76 :: e77 :: e78 :: e79 :: e80 :: e81 :: e82 :: e83 :: e84 :: e85 :: e86 :: e87 :: e88 :: e89 :: e90 :: e91 :: e92 :: e93 :: e94 :: e95 :: e96 :: e97 :: e98 :: e99 :: e100 :: e101 :: e102 :: e103 :: e104 :: e105 :: e106 :: e107 :: e108 :: e109 :: e110 :: e111 :: e112 :: e113 :: e114 :: e115 :: e116 :: e117 :: e118 :: e119 :: e120 :: e121 :: e122 :: e123 :: e124 :: e125 :: e126 :: e127 :: e128 :: e129 :: e130 :: e131 :: e132 :: e133 :: e134 :: e135 :: e136 :: e137 :: e138 :: e139 :: e140 :: e141 :: e142 :: e143 :: e144 :: e145 :: e146 :: e147 :: e148 :: e149 :: e150 :: e151 :: e152 :: e153 :: e154 :: e155 :: e156 :: e157 :: e158 :: e159 :: e160 :: e161 :: e162 :: e163 :: e164 :: e165 :: e166 :: e167 :: e168 :: e169 :: e170 :: e171 :: e172 :: e173 :: e174 :: e175 :: e176 :: e177 :: e178 :: e179 :: e180 :: e181 :: e182 :: e183 :: e184 :: e185 :: e186 :: e187 :: e188 :: e189 :: e190 :: e191 :: e192 :: e193 :: e194 :: e195 :: e196 :: e197 :: e198 :: e199 :: e200 :: e201 :: e202 :: e203 :: e204 :: e205 :: e206 :: e207 :: e208 :: e209 :: e210 :: e211 :: e212 :: e213 :: e214 :: e215 :: e216 :: e217 :: e218 :: e219 :: e220 :: e221 :: e222 :: e223 :: e224 :: e225 :: e226 :: e227 :: e228 :: e229 :: e230 :: e231 :: e232 :: e233 :: e234 :: e235 :: e236 :: e237 :: e238 :: e239 :: e240 :: e241 :: e242 :: e243 :: e244 :: e245 :: e246 :: e247 :: e248 :: e249 :: e250 :: e251 :: e252 :: e253 :: e254 :: e255 :: e256 :: e257 :: e258 :: e259 :: e260 :: e261 :: e262 :: e263 :: e264 :: u265 :: u266 :: u267 :: u268 :: u269 :: u270 :: u271 :: u272 :: u273 :: u274 :: u275 :: u276 :: u277 :: u278 :: u279 :: u280 :: u281 :: e282 :: e283 :: e284 :: e285 :: e286 :: e287 :: e288 :: e289 :: e290 :: e291 :: e292 :: e293 :: e294 :: e295 :: e296 :: e297 :: e298 :: e299 :: e300 :: e301 :: e302 :: e303 :: e304 :: e305 :: e306 :: e307 :: e308 :: e309 :: e310 :: e311 :: e312 :: e313 :: e314 :: e315 :: e316 :: [])) []) wr := by
  refine wp_mono (Q := onlyExit 10 (K (.exit 10))) ?_ (fun e a w h => by
    cases e with
    | exit j => obtain ⟨rfl, h⟩ := h; exact h
    | _ => exact h.elim)
  conv => arg 2; arg 1; whnf
  go_loopw [27] (fun c ws => ∃ i : Nat, i ≤ 8 ∧ c = .int .i64 i ∧ Cells9 ws g9 (addTo hs sv i) ∧ At ws gv sv ∧ Below w.heap.size w ws) (fun c _ => 8 - (intOf c).toNat)
  case atStart => exact ⟨0, by omega, rfl, by rw [addTo_zero hw8.len]; exact C6, hAv, Bww⟩
  case round =>
    clear C6 hAv Bww
    obtain ⟨i, hi, rfl, hC6, hA6, hB6⟩ := hrel
    by_cases hlt6 : i < 8
    · have d1 : wr.cell? ⟨g9, i, none⟩ = some (.int .i64 (hs.getD i 0)) := by
        have h1 := hC6.at' i (by rw [addTo_length]; exact hlt6)
        rw [addTo_get _ _ _ _ hlt6, if_neg (by omega)] at h1
        exact h1
      have d2 : wr.cell? ⟨gv, i, none⟩ = some (.int .i64 (sv.getD i 0)) := hA6 i (by rw [hs8.len]; exact hlt6)
      have d3 := hC6.fz i
      have HA : Hid _ := addTo_set hs sv i hlt6
      have HG : Hid _ := addTo_get hs sv i i hlt6
      obtain ⟨o0, o1⟩ := getD_isW hw8.all i
      obtain ⟨o2, o3⟩ := getD_isW hs8.all i
      generalize hs.getD i 0 = x at *
      generalize sv.getD i 0 = y at *
      have i0 : (i : Int) < 8 := by omega
      have i1 : (0 : Int) ≤ i := by omega
      have j1 := wrap_id (x + y) (by omega) (by omega)
      have j2 : (x + y).tmod 4294967296 = (x + y) % 4294967296 := Int.tmod_eq_emod_of_nonneg (by omega)
      go_wp2
      go_region
      all_goals go_wp2
      all_goals
        refine ⟨⟨i + 1, by omega, by go_num, ?_, ?_, (hB6.setCell b9 _).drew⟩, by simp [intOf]; omega⟩
        · have h1 := (hC6.set i (by rw [addTo_length]; exact hlt6) ((x + y) % 4294967296)).drew
          rwa [HA.out] at h1
        · exact fun j hj => (World.cell?_of_block (w := wr) (Below.heap_setCell wr ⟨g9, i, none⟩ _ gv (by simp; omega))).trans (hA6 j hj)
    · have hi8 : i = 8 := by omega
      rw [hi8] at hC6
      have hdi : decide ((i : Int) < 8) = false := by simp; omega
      clear hi8
      go_wp2
      exact ⟨rfl, hK _ wr hC6 hB6 _ _ _ _ _ _ _ _ _ _ _ _ _ _ _ _ _⟩
end Go.Proofs.YtaokemapkgggoaaGreatDoor
