import Derived.Test.YtaokemapkgggoaaGreatDoorAl17
import Derived.Test.YtaokemapkgggoaaGreatDoorAl18
import Derived.Test.YtaokemapkgggoaaGreatDoorAl16
namespace Go.Proofs.YtaokemapkgggoaaGreatDoor
open Go.RowKit

set_option maxRecDepth 1000000 in
set_option maxHeartbeats 16000000 in
theorem sum_turn (T : ByteArray) (m g gk ck g9 c9 : Nat) (w wr : World) (hs : List Int) (tl : List UInt8)
    (q1 : w.cell? ⟨g, 0, none⟩ = some (.slice (some ⟨gk, 0, none⟩) 64 ck)) (hgl : g < w.heap.size) (q3 : At w gk K0) (q5 : gk < w.heap.size) (b9 : w.heap.size ≤ g9)
    (hm64 : 64 * m + 64 ≤ T.size) (hTb : T.size < 200000) (HTl : Hid (T.data.toList = tl)) (hw8 : W8 hs) (hC : Cells9 wr g9 hs) (hB : Below w.heap.size w wr)
    (K : Exit → Act → World → Prop) (e2 e3 e4 e5 e6 e7 e8 e28 e29 e30 e31 e32 e33 e34 e35 e36 e37 e38 e39 e40 e41 e42 e43 e44 e45 e46 e47 e48 e49 e50 e51 e52 e53 e54 e55 e56 e57 e58 e59 e60 e61 e62 e63 e64 e282 e283 e284 e285 e286 e287 e288 e289 e290 e291 e292 e293 e294 e295 e296 e297 e298 e299 e300 e301 e302 e303 e304 e305 e306 e307 e308 e309 e310 e311 e312 e313 e314 e315 e316 u11 u12 u13 u14 u15 u16 u17 u18 u19 u20 u21 u22 u23 u24 u25 u26 u27 u65 u66 u67 u68 u69 u70 u71 u72 u73 u74 u75 u76 u77 u78 u79 u80 u81 u82 u83 u84 u85 u86 u87 u88 u89 u90 u91 u92 u93 u94 u95 u96 u97 u98 u99 u100 u101 u102 u103 u104 u105 u106 u107 u108 u109 u110 u111 u112 u113 u114 u115 u116 u117 u118 u119 u120 u121 u122 u123 u124 u125 u126 u127 u128 u129 u130 u131 u132 u133 u134 u135 u136 u137 u138 u139 u140 u141 u142 u143 u144 u145 u146 u147 u148 u149 u150 u151 u152 u153 u154 u155 u156 u157 u158 u159 u160 u161 u162 u163 u164 u165 u166 u167 u168 u169 u170 u171 u172 u173 u174 u175 u176 u177 u178 u179 u180 u181 u182 u183 u184 u185 u186 u187 u188 u189 u190 u191 u192 u193 u194 u195 u196 u197 u198 u199 u200 u201 u202 u203 u204 u205 u206 u207 u208 u209 u210 u211 u212 u213 u214 u215 u216 u217 u218 u219 u220 u221 u222 u223 u224 u225 u226 u227 u228 u229 u230 u231 u232 u233 u234 u235 u236 u237 u238 u239 u240 u241 u242 u243 u244 u245 u246 u247 u248 u249 u250 u251 u252 u253 u254 u255 u256 u257 u258 u259 u260 u261 u262 u263 u264 u265 u266 u267 u268 u269 u270 u271 u272 u273 u274 u275 u276 u277 u278 u279 u280 u281 : Value)
    (hK : ∀ (v10 : Value) (w' : World), v10 = .int .i64 (64 * ((m + 1 : Nat) : Int)) → Cells9 w' g9 (blockOn K0 hs (blk 64 (tl.drop (64 * m)))) → Below w.heap.size w w' → ∀ v11 v12 v13 v14 v15 v16 v17 v18 v19 v20 v21 v22 v23 v24 v25 v26 v27 v65 v66 v67 v68 v69 v70 v71 v72 v73 v74 v75 v76 v77 v78 v79 v80 v81 v82 v83 v84 v85 v86 v87 v88 v89 v90 v91 v92 v93 v94 v95 v96 v97 v98 v99 v100 v101 v102 v103 v104 v105 v106 v107 v108 v109 v110 v111 v112 v113 v114 v115 v116 v117 v118 v119 v120 v121 v122 v123 v124 v125 v126 v127 v128 v129 v130 v131 v132 v133 v134 v135 v136 v137 v138 v139 v140 v141 v142 v143 v144 v145 v146 v147 v148 v149 v150 v151 v152 v153 v154 v155 v156 v157 v158 v159 v160 v161 v162 v163 v164 v165 v166 v167 v168 v169 v170 v171 v172 v173 v174 v175 v176 v177 v178 v179 v180 v181 v182 v183 v184 v185 v186 v187 v188 v189 v190 v191 v192 v193 v194 v195 v196 v197 v198 v199 v200 v201 v202 v203 v204 v205 v206 v207 v208 v209 v210 v211 v212 v213 v214 v215 v216 v217 v218 v219 v220 v221 v222 v223 v224 v225 v226 v227 v228 v229 v230 v231 v232 v233 v234 v235 v236 v237 v238 v239 v240 v241 v242 v243 v244 v245 v246 v247 v248 v249 v250 v251 v252 v253 v254 v255 v256 v257 v258 v259 v260 v261 v262 v263 v264 v265 v266 v267 v268 v269 v270 v271 v272 v273 v274 v275 v276 v277 v278 v279 v280 v281 : Value, K .normal (Act.mk (List.toArray (Value.pointer (some ⟨g, 0, none⟩) :: Value.string T :: e2 :: e3 :: e4 :: e5 :: e6 :: e7 :: e8 :: Value.slice (some ⟨g9, 0, none⟩) 8 c9 :: v10 :: v11 :: v12 :: v13 :: v14 :: v15 :: v16 :: v17 :: v18 :: v19 :: v20 :: v21 :: v22 :: v23 :: v24 :: v25 :: v26 :: v27 :: e28 :: e29 :: e30 :: e31 :: e32 :: e33 :: e34 :: e35 :: e36 :: e37 :: e38 :: e39 :: e40 :: e41 :: e42 :: e43 :: e44 :: e45 :: e46 :: e47 :: e48 :: e49 :: e50 :: e51 :: e52 :: e53 :: e54 :: e55 :: e56 :: e57 :: e58 :: e59 :: e60 :: e61 :: e62 :: e63 :: e64 :: v65 :: v66 :: v67 :: v68 :: v69 :: v70 :: v71 :: v72 :: v73 :: v74 :: v75 :: v76 :: v77 :: v78 :: v79 :: v80 :: v81 :: v82 :: v83 :: v84 :: v85 :: v86 :: v87 :: v88 :: v89 :: v90 :: v91 :: v92 :: v93 :: v94 :: v95 :: v96 :: v97 :: v98 :: v99 :: v100 :: v101 :: v102 :: v103 :: v104 :: v105 :: v106 :: v107 :: v108 :: v109 :: v110 :: v111 :: v112 :: v113 :: v114 :: v115 :: v116 :: v117 :: v118 :: v119 :: v120 :: v121 :: v122 :: v123 :: v124 :: v125 :: v126 :: v127 :: v128 :: v129 :: v130 :: v131 :: v132 :: v133 :: v134 :: v135 :: v136 :: v137 :: v138 :: v139 :: v140 :: v141 :: v142 :: v143 :: v144 :: v145 :: v146 :: v147 :: v148 :: v149 :: v150 :: v151 :: v152 :: v153 :: v154 :: v155 :: v156 :: v157 :: v158 :: v159 :: v160 :: v161 :: v162 :: v163 :: v164 :: v165 :: v166 :: v167 :: v168 :: v169 :: v170 :: v171 :: v172 :: v173 :: v174 :: v175 :: v176 :: v177 :: v178 :: v179 :: v180 :: v181 :: v182 :: v183 :: v184 :: v185 :: v186 :: v187 :: v188 :: v189 :: v190 :: v191 :: v192 :: v193 :: v194 :: v195 :: v196 :: v197 :: v198 :: v199 :: v200 :: v201 :: v202 :: v203 :: v204 :: v205 :: v206 :: v207 :: v208 :: v209 :: v210 :: v211 :: v212 :: v213 :: v214 :: v215 :: v216 :: v217 :: v218 :: v219 :: v220 :: v221 :: v222 :: v223 :: v224 :: v225 :: v226 :: v227 :: v228 :: v229 :: v230 :: v231 :: v232 :: v233 :: v234 :: v235 :: v236 :: v237 :: v238 :: v239 :: v240 :: v241 :: v242 :: v243 :: v244 :: v245 :: v246 :: v247 :: v248 :: v249 :: v250 :: v251 :: v252 :: v253 :: v254 :: v255 :: v256 :: v257 :: v258 :: v259 :: v260 :: v261 :: v262 :: v263 :: v264 :: v265 :: v266 :: v267 :: v268 :: v269 :: v270 :: v271 :: v272 :: v273 :: v274 :: v275 :: v276 :: v277 :: v278 :: v279 :: v280 :: v281 :: e282 :: e283 :: e284 :: e285 :: e286 :: e287 :: e288 :: e289 :: e290 :: e291 :: e292 :: e293 :: e294 :: e295 :: e296 :: e297 :: e298 :: e299 :: e300 :: e301 :: e302 :: e303 :: e304 :: e305 :: e306 :: e307 :: e308 :: e309 :: e310 :: e311 :: e312 :: e313 :: e314 :: e315 :: e316 :: [])) []) w') :
    Code.wp Tryz.prog (sumTurn Tryz.f14) K (Act.mk (List.toArray (Value.pointer (some ⟨g, 0, none⟩) :: Value.string T :: e2 :: e3 :: e4 :: e5 :: e6 :: e7 :: e8 :: Value.slice (some ⟨g9, 0, none⟩) 8 c9 :: Value.int .i64 (64 * (m : Int)) :: u11 :: u12 :: u13 :: u14 :: u15 :: u16 :: u17 :: u18 :: u19 :: u20 :: u21 :: u22 :: u23 :: u24 :: u25 :: u26 :: u27 :: e28 :: e29 :: e30 :: e31 :: e32 :: e33 :: e34 :: e35 :: e36 :: e37 :: e38 :: e39 :: e40 :: e41 :: e42 :: e43 :: e44 :: e45 :: e46 :: e47 :: e48 :: e49 :: e50 :: e51 :: e52 :: e53 :: e54 :: e55 :: e56 :: e57 :: e58 :: e59 :: e60 :: e61 :: e62 :: e63 :: e64 :: u65 :: u66 :: u67 :: u68 :: u69 :: u70 :: u71 :: u72 :: u73 :: u74 :: u75 :: u76 :: u77 :: u78 :: u79 :: u80 :: u81 :: u82 :: u83 :: u84 :: u85 :: u86 :: u87 :: u88 :: u89 :: u90 :: u91 :: u92 :: u93 :: u94 :: u95 :: u96 :: u97 :: u98 :: u99 :: u100 :: u101 :: u102 :: u103 :: u104 :: u105 :: u106 :: u107 :: u108 :: u109 :: u110 :: u111 :: u112 :: u113 :: u114 :: u115 :: u116 :: u117 :: u118 :: u119 :: u120 :: u121 :: u122 :: u123 :: u124 :: u125 :: u126 :: u127 :: u128 :: u129 :: u130 :: u131 :: u132 :: u133 :: u134 :: u135 :: u136 :: u137 :: u138 :: u139 :: u140 :: u141 :: u142 :: u143 :: u144 :: u145 :: u146 :: u147 :: u148 :: u149 :: u150 :: u151 :: u152 :: u153 :: u154 :: u155 :: u156 :: u157 :: u158 :: u159 :: u160 :: u161 :: u162 :: u163 :: u164 :: u165 :: u166 :: u167 :: u168 :: u169 :: u170 :: u171 :: u172 :: u173 :: u174 :: u175 :: u176 :: u177 :: u178 :: u179 :: u180 :: u181 :: u182 :: u183 :: u184 :: u185 :: u186 :: u187 :: u188 :: u189 :: u190 :: u191 :: u192 :: u193 :: u194 :: u195 :: u196 :: u197 :: u198 :: u199 :: u200 :: u201 :: u202 :: u203 :: u204 :: u205 :: u206 :: u207 :: u208 :: u209 :: u210 :: u211 :: u212 :: u213 :: u214 :: u215 :: u216 :: u217 :: u218 :: u219 :: u220 :: u221 :: u222 :: u223 :: u224 :: u225 :: u226 :: u227 :: u228 :: u229 :: u230 :: u231 :: u232 :: u233 :: u234 :: u235 :: u236 :: u237 :: u238 :: u239 :: u240 :: u241 :: u242 :: u243 :: u244 :: u245 :: u246 :: u247 :: u248 :: u249 :: u250 :: u251 :: u252 :: u253 :: u254 :: u255 :: u256 :: u257 :: u258 :: u259 :: u260 :: u261 :: u262 :: u263 :: u264 :: u265 :: u266 :: u267 :: u268 :: u269 :: u270 :: u271 :: u272 :: u273 :: u274 :: u275 :: u276 :: u277 :: u278 :: u279 :: u280 :: u281 :: e282 :: e283 :: e284 :: e285 :: e286 :: e287 :: e288 :: e289 :: e290 :: e291 :: e292 :: e293 :: e294 :: e295 :: e296 :: e297 :: e298 :: e299 :: e300 :: e301 :: e302 :: e303 :: e304 :: e305 :: e306 :: e307 :: e308 :: e309 :: e310 :: e311 :: e312 :: e313 :: e314 :: e315 :: e316 :: [])) []) wr := by
  conv => arg 2; whnf
  have hdm : decide (64 * (m : Int) < T.size) = true := by simp; omega
  obtain ⟨b, HBk⟩ : ∃ b, Hid (b = blk 64 (tl.drop (64 * m))) := ⟨_, rfl⟩
  rw [← HBk.out] at hK
  have hbB : ∀ x ∈ b, isB x := by rw [HBk.out]; exact blk_B _ _
  have HTb : Hid (∀ j (h : j < 64), ((T[64 * m + j]'(by omega)).toNat : Int) = b.getD j 0) := by
    intro j h
    rw [HBk.out]
    exact blk_byte HTl (by omega) h
  go_wp2
  refine sum_words T m g9 c9 w wr b hs hm64 hTb hbB HTb hC hB _ _ _ _ _ _ _ _ _ _ _ _ _ _ _ _ _ _ _ _ _ _ _ _ _ _ _ _ _ _ _ _ _ _ _ _ _ _ _ _ _ _ _ _ _ _ _ _ _ _ _ _ _ _ _ _ _ _ _ _ _ _ _ _ _ _ _ _ _ _ _ _ _ _ _ _ _ _ _ _ _ _ _ _ _ _ _ _ _ _ _ _ _ _ _ _ _ _ _ _ _ _ _ _ _ _ _ _ _ _ _ _ _ _ _ _ _ _ _ _ _ _ _ _ _ _ _ _ _ _ _ _ _ _ _ _ _ _ _ _ _ _ _ _ _ _ _ _ _ _ _ _ _ _ _ _ _ _ _ _ _ _ _ _ _ _ _ _ _ _ _ _ _ _ _ _ _ _ _ _ _ _ _ _ _ _ _ _ _ _ _ _ _ _ _ _ _ _ _ _ _ _ _ _ _ _ _ _ _ _ _ _ _ _ _ _ _ _ _ _ _ _ _ _ _ _ _ _ _ _ _ _ _ _ _ _ _ _ _ _ _ _ _ _ _ _ _ _ _ _ _ _ _ _ _ _ _ _ _ _ _ _ _ _ _ _ _ _ _ _ _ _ _ _ _ _ _ _ _ _ _ _ _ _ _ _ _ _ _ _ _ _ _ _ _ _ _ _ _ _ _ _ _ _ _ _ _ _ _ _ _ _ _ _ ?_
  clear hC hB HTb
  intro v11 v12 wr hW hC hB
  intros
  have hbs2 := hB.size
  have HWL : Hid ((rowW b 64).length = 64) := rowW_length b 64
  have hww := rowW_w hbB 64
  obtain ⟨wl, HWl⟩ : ∃ wl, Hid (wl = rowW b 64) := ⟨_, rfl⟩
  rw [← HWl.out] at hW HWL hww
  obtain ⟨gw, cw, hv, hgw, hgw2, hAw, -⟩ := hW.at (by rw [HWL.out]; omega)
  rw [HWL.out] at hv
  subst hv
  go_wp2_with (at_builtin; refine wpList_app rfl (.tmp 154) (.tmp 155) 42 3 .i64 8 rfl slI w.heap.size _ [] rfl (Own.nil _ _ _ _) g9 c9 hs (by rw [hw8.len]; rfl) hC.at' (by rw [hw8.len]; decide) hbs2 ?_; intro vv w5 hownv hgrow hat)
  rw [List.nil_append] at hownv
  obtain ⟨gv0, cv0, hvv, -, hgv1, hAv0, -⟩ := hownv.at (by rw [hw8.len]; omega)
  rw [hw8.len] at hvv
  subst hvv
  have hB5 : Below wr.heap.size wr w5 := below_of_none hgrow
  have hgv9 : g9 < gv0 := by
    rcases hat with h | h
    · cases h
    · have := Option.some.inj h; have := hC.lt; simp at *; omega
  have C5 := hC.below hB5 hC.lt
  have A5 : At w5 gw wl := At.below (w := wr) hAw hB5 hgw2
  have Bw5 := hB.trans (hB5.mono hbs2)
  have G5 : gw < w5.heap.size := Nat.lt_of_lt_of_le hgw2 hB5.size
  have hC5lt := C5.lt
  clear hgrow hat hownv hB5 hW hAw hgw2 hC hB
  refine sum_mixes g gk ck gw cw gv0 cv0 g9 w5 wl hs ((Bw5.cell (p := ⟨g, 0, none⟩) hgl).trans q1) (Nat.lt_of_lt_of_le hgl Bw5.size) (q3.below Bw5 q5) (Nat.lt_of_lt_of_le q5 Bw5.size) A5 G5 HWL hww hw8 hAv0 hgv9 hgv1 _ _ _ _ _ _ _ _ _ _ _ _ _ _ _ _ _ _ _ _ _ _ _ _ _ _ _ _ _ _ _ _ _ _ _ _ _ _ _ _ _ _ _ _ _ _ _ _ _ _ _ _ _ _ _ _ _ _ _ _ _ _ _ _ _ _ _ _ _ _ _ _ _ _ _ _ _ _ _ _ _ _ _ _ _ _ _ _ _ _ _ _ _ _ _ _ _ _ _ _ _ _ _ _ _ _ _ _ _ _ _ _ _ _ _ _ _ _ _ _ _ _ _ _ _ _ _ _ _ _ _ _ _ _ _ _ _ _ _ _ _ _ _ _ _ _ _ _ _ _ _ _ _ _ _ _ _ _ _ _ _ _ _ _ _ _ _ _ _ _ _ _ _ _ _ _ _ _ _ _ _ _ _ _ _ _ _ _ _ _ _ _ _ _ _ _ _ _ _ _ _ _ _ _ _ _ _ _ _ _ _ _ _ _ _ _ _ _ _ _ _ _ _ _ _ _ _ _ _ _ _ _ _ _ _ _ _ _ _ _ _ _ _ _ _ _ _ _ _ _ _ _ _ _ _ _ _ _ _ _ _ _ _ _ _ _ _ _ _ _ _ _ _ _ _ _ _ _ _ _ _ _ _ _ _ _ _ _ _ _ _ _ _ _ _ _ _ _ _ _ _ _ _ _ _ _ _ _ _ _ _ _ _ _ ?_
  clear A5 G5 hAv0 hgv9 hgv1 hww
  intro v18 v19 w6 gv cv h18 hgv9 hgv hAv hB6
  intros
  subst h18
  have Bw6 := Bw5.trans (hB6.mono Bw5.size)
  have C6 := C5.below hB6 hC5lt
  clear C5 hB6 Bw5
  obtain ⟨sv, HSv⟩ : ∃ sv, Hid (sv = rounds K0 wl hs 64) := ⟨_, rfl⟩
  rw [← HSv.out] at hAv
  have hs8 : W8 sv := by rw [HSv.out]; exact hw8.rounds K0 wl 64
  have HFin : Hid (addTo hs sv 8 = blockOn K0 hs b) := by
    show _ = _
    rw [addTo_all hw8.len hs8.len, HSv.out, HWl.out]
    rfl
  go_wp2
  refine sum_adds g9 c9 gv cv w w6 hs sv hw8 hs8 C6 hAv Bw6 hgv9 b9 _ _ _ _ _ _ _ _ _ _ _ _ _ _ _ _ _ _ _ _ _ _ _ _ _ _ _ _ _ _ _ _ _ _ _ _ _ _ _ _ _ _ _ _ _ _ _ _ _ _ _ _ _ _ _ _ _ _ _ _ _ _ _ _ _ _ _ _ _ _ _ _ _ _ _ _ _ _ _ _ _ _ _ _ _ _ _ _ _ _ _ _ _ _ _ _ _ _ _ _ _ _ _ _ _ _ _ _ _ _ _ _ _ _ _ _ _ _ _ _ _ _ _ _ _ _ _ _ _ _ _ _ _ _ _ _ _ _ _ _ _ _ _ _ _ _ _ _ _ _ _ _ _ _ _ _ _ _ _ _ _ _ _ _ _ _ _ _ _ _ _ _ _ _ _ _ _ _ _ _ _ _ _ _ _ _ _ _ _ _ _ _ _ _ _ _ _ _ _ _ _ _ _ _ _ _ _ _ _ _ _ _ _ _ _ _ _ _ _ _ _ _ _ _ _ _ _ _ _ _ _ _ _ _ _ _ _ _ _ _ _ _ _ _ _ _ _ _ _ _ _ _ _ _ _ _ _ _ _ _ _ _ _ _ _ _ _ _ _ _ _ _ _ _ _ _ _ _ _ _ _ _ _ _ _ _ _ _ _ _ _ _ _ _ _ _ _ _ _ _ _ _ _ _ _ _ _ _ _ _ _ _ _ _ _ ?_
  clear C6 hAv Bw6 hgv9
  intro v27 w7 C7 B7
  intros
  rw [HFin.out] at C7
  go_wp2
  exact hK _ w7 (by go_num) C7 B7 _ _ _ _ _ _ _ _ _ _ _ _ _ _ _ _ _ _ _ _ _ _ _ _ _ _ _ _ _ _ _ _ _ _ _ _ _ _ _ _ _ _ _ _ _ _ _ _ _ _ _ _ _ _ _ _ _ _ _ _ _ _ _ _ _ _ _ _ _ _ _ _ _ _ _ _ _ _ _ _ _ _ _ _ _ _ _ _ _ _ _ _ _ _ _ _ _ _ _ _ _ _ _ _ _ _ _ _ _ _ _ _ _ _ _ _ _ _ _ _ _ _ _ _ _ _ _ _ _ _ _ _ _ _ _ _ _ _ _ _ _ _ _ _ _ _ _ _ _ _ _ _ _ _ _ _ _ _ _ _ _ _ _ _ _ _ _ _ _ _ _ _ _ _ _ _ _ _ _ _ _ _ _ _ _ _ _ _ _ _ _ _ _ _ _ _ _ _ _ _ _ _ _ _ _ _ _ _ _ _ _ _ _ _ _ _ _ _ _ _ _ _ _ _ _ _ _ _ _ _ _ _ _ _
end Go.Proofs.YtaokemapkgggoaaGreatDoor

namespace Go.Proofs.YtaokemapkgggoaaGreatDoor
open Go.RowKit

set_option maxRecDepth 1000000 in
set_option maxHeartbeats 16000000 in
theorem sum_outs (g9 c9 : Nat) (w wr : World) (fm : List Int) (hfm : W8 fm) (hC : Cells9 wr g9 fm) (hB : Below w.heap.size w wr)
    (K : Exit → Act → World → Prop) (e0 e1 e2 e3 e4 e5 e6 e7 e8 e10 e11 e12 e13 e14 e15 e16 e17 e18 e19 e20 e21 e22 e23 e24 e25 e26 e27 e30 e31 e32 e33 e34 e35 e36 e37 e38 e39 e40 e41 e42 e43 e44 e45 e46 e47 e48 e49 e50 e51 e52 e53 e54 e55 e56 e57 e58 e59 e60 e61 e62 e63 e64 e65 e66 e67 e68 e69 e70 e71 e72 e73 e74 e75 e76 e77 e78 e79 e80 e81 e82 e83 e84 e85 e86 e87 e88 e89 e90 e91 e92 e93 e94 e95 e96 e97 e98 e99 e100 e101 e102 e103 e104 e105 e106 e107 e108 e109 e110 e111 e112 e113 e114 e115 e116 e117 e118 e119 e120 e121 e122 e123 e124 e125 e126 e127 e128 e129 e130 e131 e132 e133 e134 e135 e136 e137 e138 e139 e140 e141 e142 e143 e144 e145 e146 e147 e148 e149 e150 e151 e152 e153 e154 e155 e156 e157 e158 e159 e160 e161 e162 e163 e164 e165 e166 e167 e168 e169 e170 e171 e172 e173 e174 e175 e176 e177 e178 e179 e180 e181 e182 e183 e184 e185 e186 e187 e188 e189 e190 e191 e192 e193 e194 e195 e196 e197 e198 e199 e200 e201 e202 e203 e204 e205 e206 e207 e208 e209 e210 e211 e212 e213 e214 e215 e216 e217 e218 e219 e220 e221 e222 e223 e224 e225 e226 e227 e228 e229 e230 e231 e232 e233 e234 e235 e236 e237 e238 e239 e240 e241 e242 e243 e244 e245 e246 e247 e248 e249 e250 e251 e252 e253 e254 e255 e256 e257 e258 e259 e260 e261 e262 e263 e264 e265 e266 e267 e268 e269 e270 e271 e272 e273 e274 e275 e276 e277 e278 e279 e280 e281 e315 e316 u282 u283 u284 u285 u286 u287 u288 u289 u290 u291 u292 u293 u294 u295 u296 u297 u298 u299 u300 u301 u302 u303 u304 u305 u306 u307 u308 u309 u310 u311 u312 u313 u314 : Value)
    (hK : ∀ (v28 v29 : Value) (w' : World), Own w' w.heap.size .u8 5 v28 (fm.flatMap four) → Below w.heap.size w w' → ∀ v282 v283 v284 v285 v286 v287 v288 v289 v290 v291 v292 v293 v294 v295 v296 v297 v298 v299 v300 v301 v302 v303 v304 v305 v306 v307 v308 v309 v310 v311 v312 v313 v314 : Value, K (.exit 12) (Act.mk (List.toArray (e0 :: e1 :: e2 :: e3 :: e4 :: e5 :: e6 :: e7 :: e8 :: Value.slice (some ⟨g9, 0, none⟩) 8 c9 :: e10 :: e11 :: e12 :: e13 :: e14 :: e15 :: e16 :: e17 :: e18 :: e19 :: e20 :: e21 :: e22 :: e23 :: e24 :: e25 :: e26 :: e27 :: v28 :: v29 :: e30 :: e31 :: e32 :: e33 :: e34 :: e35 :: e36 :: e37 :: e38 :: e39 :: e40 :: e41 :: e42 :: e43 :: e44 :: e45 :: e46 :: e47 :: e48 :: e49 :: e50 :: e51 :: e52 :: e53 :: e54 :: e55 :: e56 :: e57 :: e58 :: e59 :: e60 :: e61 :: e62 :: e63 :: e64 :: e65 :: e66 :: e67 :: e68 :: e69 :: e70 :: e71 :: e72 :: e73 :: e74 :: e75 :: e76 :: e77 :: e78 :: e79 :: e80 :: e81 :: e82 :: e83 :: e84 :: e85 :: e86 :: e87 :: e88 :: e89 :: e90 :: e91 :: e92 :: e93 :: e94 :: e95 :: e96 :: e97 :: e98 :: e99 :: e100 :: e101 :: e102 :: e103 :: e104 :: e105 :: e106 :: e107 :: e108 :: e109 :: e110 :: e111 :: e112 :: e113 :: e114 :: e115 :: e116 :: e117 :: e118 :: e119 :: e120 :: e121 :: e122 :: e123 :: e124 :: e125 :: e126 :: e127 :: e128 :: e129 :: e130 :: e131 :: e132 :: e133 :: e134 :: e135 :: e136 :: e137 :: e138 :: e139 :: e140 :: e141 :: e142 :: e143 :: e144 :: e145 :: e146 :: e147 :: e148 :: e149 :: e150 :: e151 :: e152 :: e153 :: e154 :: e155 :: e156 :: e157 :: e158 :: e159 :: e160 :: e161 :: e162 :: e163 :: e164 :: e165 :: e166 :: e167 :: e168 :: e169 :: e170 :: e171 :: e172 :: e173 :: e174 :: e175 :: e176 :: e177 :: e178 :: e179 :: e180 :: e181 :: e182 :: e183 :: e184 :: e185 :: e186 :: e187 :: e188 :: e189 :: e190 :: e191 :: e192 :: e193 :: e194 :: e195 :: e196 :: e197 :: e198 :: e199 :: e200 :: e201 :: e202 :: e203 :: e204 :: e205 :: e206 :: e207 :: e208 :: e209 :: e210 :: e211 :: e212 :: e213 :: e214 :: e215 :: e216 :: e217 :: e218 :: e219 :: e220 :: e221 :: e222 :: e223 :: e224 :: e225 :: e226 :: e227 :: e228 :: e229 :: e230 :: e231 :: e232 :: e233 :: e234 :: e235 :: e236 :: e237 :: e238 :: e239 :: e240 :: e241 :: e242 :: e243 :: e244 :: e245 :: e246 :: e247 :: e248 :: e249 :: e250 :: e251 :: e252 :: e253 :: e254 :: e255 :: e256 :: e257 :: e258 :: e259 :: e260 :: e261 :: e262 :: e263 :: e264 :: e265 :: e266 :: e267 :: e268 :: e269 :: e270 :: e271 :: e272 :: e273 :: e274 :: e275 :: e276 :: e277 :: e278 :: e279 :: e280 :: e281 :: v282 :: v283 :: v284 :: v285 :: v286 :: v287 :: v288 :: v289 :: v290 :: v291 :: v292 :: v293 :: v294 :: v295 :: v296 :: v297 :: v298 :: v299 :: v300 :: v301 :: v302 :: v303 :: v304 :: v305 :: v306 :: v307 :: v308 :: v309 :: v310 :: v311 :: v312 :: v313 :: v314 :: e315 :: e316 :: [])) []) w') :
    Code.wp Tryz.prog (.loop (sumOut Tryz.f14)) K (Act.mk (List.toArray (e0 :: e1 :: e2 :: e3 :: e4 :: e5 :: e6 :: e7 :: e8 :: Value.slice (some ⟨g9, 0, none⟩) 8 c9 :: e10 :: e11 :: e12 :: e13 :: e14 :: e15 :: e16 :: e17 :: e18 :: e19 :: e20 :: e21 :: e22 :: e23 :: e24 :: e25 :: e26 :: e27 :: Value.slice none 0 0 :: Value.int .i64 0 :: e30 :: e31 :: e32 :: e33 :: e34 :: e35 :: e36 :: e37 :: e38 :: e39 :: e40 :: e41 :: e42 :: e43 :: e44 :: e45 :: e46 :: e47 :: e48 :: e49 :: e50 :: e51 :: e52 :: e53 :: e54 :: e55 :: e56 :: e57 :: e58 :: e59 :: e60 :: e61 :: e62 :: e63 :: e64 :: e65 :: e66 :: e67 :: e68 :: e69 :: e70 :: e71 :: e72 :: e73 :: e74 :: e75 :: e76 :: e77 :: e78 :: e79 :: e80 :: e81 :: e82 :: e83 :: e84 :: e85 :: e86 :: e87 :: e88 :: e89 :: e90 :: e91 :: e92 :: e93 :: e94 :: e95 :: e96 :: e97 :: e98 :: e99 :: e100 :: e101 :: e102 :: e103 :: e104 :: e105 :: e106 :: e107 :: e108 :: e109 :: e110 :: e111 :: e112 :: e113 :: e114 :: e115 :: e116 :: e117 :: e118 :: e119 :: e120 :: e121 :: e122 :: e123 :: e124 :: e125 :: e126 :: e127 :: e128 :: e129 :: e130 :: e131 :: e132 :: e133 :: e134 :: e135 :: e136 :: e137 :: e138 :: e139 :: e140 :: e141 :: e142 :: e143 :: e144 :: e145 :: e146 :: e147 :: e148 :: e149 :: e150 :: e151 :: e152 :: e153 :: e154 :: e155 :: e156 :: e157 :: e158 :: e159 :: e160 :: e161 :: e162 :: e163 :: e164 :: e165 :: e166 :: e167 :: e168 :: e169 :: e170 :: e171 :: e172 :: e173 :: e174 :: e175 :: e176 :: e177 :: e178 :: e179 :: e180 :: e181 :: e182 :: e183 :: e184 :: e185 :: e186 :: e187 :: e188 :: e189 :: e190 :: e191 :: e192 :: e193 :: e194 :: e195 :: e196 :: e197 :: e198 :: e199 :: e200 :: e201 :: e202 :: e203 :: e204 :: e205 :: e206 :: e207 :: e208 :: e209 :: e210 :: e211 :: e212 :: e213 :: e214 :: e215 :: e216 :: e217 :: e218 :: e219 :: e220 :: e221 :: e222 :: e223 :: e224 :: e225 :: e226 :: e227 :: e228 :: e229 :: e230 :: e231 :: e232 :: e233 :: e234 :: e235 :: e236 :: e237 :: e238 :: e239 :: e240 :: e241 :: e242 :: e243 :: e244 :: e245 :: e246 :: e247 :: e248 :: e249 :: e250 :: e251 :: e252 :: e253 :: e254 :: e255 :: e256 :: e257 :: e258 :: e259 :: e260 :: e261 :: e262 :: e263 :: e264 :: e265 :: e266 :: e267 :: e268 :: e269 :: e270 :: e271 :: e272 :: e273 :: e274 :: e275 :: e276 :: e277 :: e278 :: e279 :: e280 :: e281 :: u282 :: u283 :: u284 :: u285 :: u286 :: u287 :: u288 :: u289 :: u290 :: u291 :: u292 :: u293 :: u294 :: u295 :: u296 :: u297 :: u298 :: u299 :: u300 :: u301 :: u302 :: u303 :: u304 :: u305 :: u306 :: u307 :: u308 :: u309 :: u310 :: u311 :: u312 :: u313 :: u314 :: e315 :: e316 :: [])) []) wr := by
  conv => arg 2; arg 1; whnf
  have hfl : Hid (fm.length = 8) := hfm.len
  go_loopw [28, 29] (fun ov c ws => ∃ i : Nat, i ≤ 8 ∧ c = .int .i64 i ∧ Own ws w.heap.size .u8 5 ov ((fm.take i).flatMap four) ∧ Sep ov (.slice (some ⟨g9, 0, none⟩) 8 c9) ∧ Cells9 ws g9 fm ∧ Below w.heap.size w ws) (fun _ c _ => 8 - (intOf c).toNat)
  case atStart => exact ⟨0, by omega, rfl, Own.nil _ _ _ _, Sep.nil _, hC, hB⟩
  case round =>
    clear hC hB
    obtain ⟨i, hi, rfl, hO, hsep, hC, hB⟩ := hrel
    have hbs2 := hB.size
    have hC1 := hC.lt
    have hol : Hid (((fm.take i).flatMap four).length = 4 * i) := by show _ = _; rw [flat_length, List.length_take, hfl.out]; omega
    have HOS : Hid (i < 8 → (fm.take (i + 1)).flatMap four = (fm.take i).flatMap four ++ four (fm.getD i 0)) := by
      intro h8
      have h9 : i < fm.length := by rw [hfl.out]; exact h8
      rw [List.take_succ_eq_append_getElem h9, List.flatMap_append, show fm.getD i 0 = fm[i] by simp [List.getD, h9]]
      simp
    obtain ⟨ol, HOl⟩ : ∃ ol, Hid (ol = (fm.take i).flatMap four) := ⟨_, rfl⟩
    rw [← HOl.out] at hO hol HOS
    by_cases hlt7 : i < 8
    · have d1 : wr.cell? ⟨g9, i, none⟩ = some (.int .i64 (fm.getD i 0)) := hC.at' i (by rw [hfl.out]; exact hlt7)
      have HOs' := HOS.out hlt7
      have hk6 : ∀ w6, wr.grownBy w6 u28.ownBlock → w6.cell? ⟨g9, i, none⟩ = some (.int .i64 (fm.getD i 0)) := fun w6 hg => (hC.grown (u := .slice (some ⟨g9, 0, none⟩) 8 c9) hg rfl hsep).at' i (by rw [hfl.out]; exact hlt7)
      obtain ⟨o0, o1⟩ := getD_isW hfm.all i
      have HOs : Hid _ := HOs'
      clear HOs'
      generalize fm.getD i 0 = x at *
      have i0 : (i : Int) < 8 := by omega
      have i1 : (0 : Int) ≤ i := by omega
      have t1 : x.tdiv 16777216 = x / 16777216 := Int.tdiv_eq_ediv_of_nonneg (by omega)
      have t2 : x.tdiv 65536 = x / 65536 := Int.tdiv_eq_ediv_of_nonneg (by omega)
      have t3 : x.tdiv 256 = x / 256 := Int.tdiv_eq_ediv_of_nonneg (by omega)
      have t4 : x.tmod 256 = x % 256 := Int.tmod_eq_emod_of_nonneg (by omega)
      have t5 : (x / 65536).tmod 256 = x / 65536 % 256 := Int.tmod_eq_emod_of_nonneg (by omega)
      have t6 : (x / 256).tmod 256 = x / 256 % 256 := Int.tmod_eq_emod_of_nonneg (by omega)
      have w1' := wrap_id (x / 16777216) (by omega) (by omega)
      have w2' := wrap_id (x / 65536) (by omega) (by omega)
      have w3' := wrap_id (x / 256) (by omega) (by omega)
      have b1' := wrap8_id (x / 16777216) (by omega) (by omega)
      have b2' := wrap8_id (x / 65536 % 256) (by omega) (by omega)
      have b3' := wrap8_id (x / 256 % 256) (by omega) (by omega)
      have b4' := wrap8_id (x % 256) (by omega) (by omega)
      go_wp2
      go_region_held3 (fun w' => w'.cell? ⟨g9, i, none⟩ = some (.int .i64 x)) (first | exact d1 | go_keep | exact hk6 _ hgrow) (first | (refine step_app wr rfl (.tmp 286) (.tmp 313) 49 5 .u8 1 rfl slB w.heap.size _ ol rfl hO [x / 16777216, x / 65536 % 256, x / 256 % 256, x % 256] 4 4 5 rfl rfl rfl rfl rfl rfl (by rw [hol.out]; omega) hbs2 ?_; intro ov' w6 hO' hgrow hat))
      all_goals go_wp2
      all_goals
        have hC' := hC.grown (u := .slice (some ⟨g9, 0, none⟩) 8 c9) hgrow rfl hsep
        have hsep' := hsep.app9 (u := .slice (some ⟨g9, 0, none⟩) 8 c9) rfl hC1 (Nat.le_succ _) hat
        have hB' := below_grown hB hgrow hO hbs2 (Nat.le_refl _)
        refine ⟨⟨i + 1, by omega, by go_num, by rw [HOs.out]; exact hO', hsep', hC', hB'⟩, by simp [intOf]; omega⟩
    · have hi8 : i = 8 := by omega
      have hO8 : Own wr w.heap.size .u8 5 u28 (fm.flatMap four) := by
        have e8' : ol = fm.flatMap four := by rw [HOl.out, hi8, List.take_of_length_le (by rw [hfl.out]; omega)]
        rw [← e8']; exact hO
      have hdi : decide ((i : Int) < 8) = false := by simp; omega
      clear hO hi8
      go_wp2
      exact hK _ _ wr hO8 hB _ _ _ _ _ _ _ _ _ _ _ _ _ _ _ _ _ _ _ _ _ _ _ _ _ _ _ _ _ _ _ _ _
end Go.Proofs.YtaokemapkgggoaaGreatDoor
