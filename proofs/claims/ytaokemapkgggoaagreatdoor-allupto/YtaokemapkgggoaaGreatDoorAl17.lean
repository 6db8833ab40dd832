import Derived.Test.YtaokemapkgggoaaGreatDoorAl16
namespace Go.Proofs.YtaokemapkgggoaaGreatDoor
open Go.RowKit

set_option maxRecDepth 1000000 in
set_option maxHeartbeats 16000000 in
theorem sum_word_b (T : ByteArray) (m t N gw cw : Nat) (wr : World) (wl : List Int) (x15 x2 x7 x16 : Int)
    (hlt4 : t < 64) (h16 : ¬ t < 16)
    (c15 : wr.cell? ⟨gw, t - 15, none⟩ = some (.int .i64 x15)) (c2 : wr.cell? ⟨gw, t - 2, none⟩ = some (.int .i64 x2)) (c7 : wr.cell? ⟨gw, t - 7, none⟩ = some (.int .i64 x7)) (c16 : wr.cell? ⟨gw, t - 16, none⟩ = some (.int .i64 x16))
    (w15 : isW x15) (w2' : isW x2) (w7 : isW x7) (w16 : isW x16)
    (hW : Own wr N .i64 3 (.slice (some ⟨gw, 0, none⟩) t cw) wl) (HWL : Hid (wl.length = t)) (hbs2 : N ≤ wr.heap.size)
    (K : Exit → Act → World → Prop) (e0 e2 e3 e4 e5 e6 e7 e8 e9 e18 e19 e20 e21 e22 e23 e24 e25 e26 e27 e28 e29 e30 e31 e32 e33 e34 e35 e36 e37 e38 e39 e40 e41 e42 e43 e44 e45 e46 e47 e48 e49 e50 e51 e52 e53 e54 e55 e56 e57 e58 e59 e60 e61 e62 e63 e64 e65 e66 e67 e68 e69 e70 e154 e155 e156 e157 e158 e159 e160 e161 e162 e163 e164 e165 e166 e167 e168 e169 e170 e171 e172 e173 e174 e175 e176 e177 e178 e179 e180 e181 e182 e183 e184 e185 e186 e187 e188 e189 e190 e191 e192 e193 e194 e195 e196 e197 e198 e199 e200 e201 e202 e203 e204 e205 e206 e207 e208 e209 e210 e211 e212 e213 e214 e215 e216 e217 e218 e219 e220 e221 e222 e223 e224 e225 e226 e227 e228 e229 e230 e231 e232 e233 e234 e235 e236 e237 e238 e239 e240 e241 e242 e243 e244 e245 e246 e247 e248 e249 e250 e251 e252 e253 e254 e255 e256 e257 e258 e259 e260 e261 e262 e263 e264 e265 e266 e267 e268 e269 e270 e271 e272 e273 e274 e275 e276 e277 e278 e279 e280 e281 e282 e283 e284 e285 e286 e287 e288 e289 e290 e291 e292 e293 e294 e295 e296 e297 e298 e299 e300 e301 e302 e303 e304 e305 e306 e307 e308 e309 e310 e311 e312 e313 e314 e315 e316 u13 u14 u15 u16 u17 u71 u72 u73 u74 u75 u76 u77 u78 u79 u80 u81 u82 u83 u84 u85 u86 u87 u88 u89 u90 u91 u92 u93 u94 u95 u96 u97 u98 u99 u100 u101 u102 u103 u104 u105 u106 u107 u108 u109 u110 u111 u112 u113 u114 u115 u116 u117 u118 u119 u120 u121 u122 u123 u124 u125 u126 u127 u128 u129 u130 u131 u132 u133 u134 u135 u136 u137 u138 u139 u140 u141 u142 u143 u144 u145 u146 u147 u148 u149 u150 u151 u152 u153 : Value)
    (hK : ∀ (v11 v12 : Value) (w' : World), v12 = .int .i64 ((t + 1 : Nat) : Int) → Own w' N .i64 3 v11 (wl ++ [nextW x16 x15 x7 x2]) → wr.grownBy w' (Value.slice (some ⟨gw, 0, none⟩) t cw).ownBlock → (v11.ownBlock = (Value.slice (some ⟨gw, 0, none⟩) t cw).ownBlock ∨ v11.ownBlock = some (wr.heap.size + 1)) → ∀ v13 v14 v15 v16 v17 v71 v72 v73 v74 v75 v76 v77 v78 v79 v80 v81 v82 v83 v84 v85 v86 v87 v88 v89 v90 v91 v92 v93 v94 v95 v96 v97 v98 v99 v100 v101 v102 v103 v104 v105 v106 v107 v108 v109 v110 v111 v112 v113 v114 v115 v116 v117 v118 v119 v120 v121 v122 v123 v124 v125 v126 v127 v128 v129 v130 v131 v132 v133 v134 v135 v136 v137 v138 v139 v140 v141 v142 v143 v144 v145 v146 v147 v148 v149 v150 v151 v152 v153 : Value, K .normal (Act.mk (List.toArray (e0 :: Value.string T :: e2 :: e3 :: e4 :: e5 :: e6 :: e7 :: e8 :: e9 :: Value.int .i64 (64 * (m : Int)) :: v11 :: v12 :: v13 :: v14 :: v15 :: v16 :: v17 :: e18 :: e19 :: e20 :: e21 :: e22 :: e23 :: e24 :: e25 :: e26 :: e27 :: e28 :: e29 :: e30 :: e31 :: e32 :: e33 :: e34 :: e35 :: e36 :: e37 :: e38 :: e39 :: e40 :: e41 :: e42 :: e43 :: e44 :: e45 :: e46 :: e47 :: e48 :: e49 :: e50 :: e51 :: e52 :: e53 :: e54 :: e55 :: e56 :: e57 :: e58 :: e59 :: e60 :: e61 :: e62 :: e63 :: e64 :: e65 :: e66 :: e67 :: e68 :: e69 :: e70 :: v71 :: v72 :: v73 :: v74 :: v75 :: v76 :: v77 :: v78 :: v79 :: v80 :: v81 :: v82 :: v83 :: v84 :: v85 :: v86 :: v87 :: v88 :: v89 :: v90 :: v91 :: v92 :: v93 :: v94 :: v95 :: v96 :: v97 :: v98 :: v99 :: v100 :: v101 :: v102 :: v103 :: v104 :: v105 :: v106 :: v107 :: v108 :: v109 :: v110 :: v111 :: v112 :: v113 :: v114 :: v115 :: v116 :: v117 :: v118 :: v119 :: v120 :: v121 :: v122 :: v123 :: v124 :: v125 :: v126 :: v127 :: v128 :: v129 :: v130 :: v131 :: v132 :: v133 :: v134 :: v135 :: v136 :: v137 :: v138 :: v139 :: v140 :: v141 :: v142 :: v143 :: v144 :: v145 :: v146 :: v147 :: v148 :: v149 :: v150 :: v151 :: v152 :: v153 :: e154 :: e155 :: e156 :: e157 :: e158 :: e159 :: e160 :: e161 :: e162 :: e163 :: e164 :: e165 :: e166 :: e167 :: e168 :: e169 :: e170 :: e171 :: e172 :: e173 :: e174 :: e175 :: e176 :: e177 :: e178 :: e179 :: e180 :: e181 :: e182 :: e183 :: e184 :: e185 :: e186 :: e187 :: e188 :: e189 :: e190 :: e191 :: e192 :: e193 :: e194 :: e195 :: e196 :: e197 :: e198 :: e199 :: e200 :: e201 :: e202 :: e203 :: e204 :: e205 :: e206 :: e207 :: e208 :: e209 :: e210 :: e211 :: e212 :: e213 :: e214 :: e215 :: e216 :: e217 :: e218 :: e219 :: e220 :: e221 :: e222 :: e223 :: e224 :: e225 :: e226 :: e227 :: e228 :: e229 :: e230 :: e231 :: e232 :: e233 :: e234 :: e235 :: e236 :: e237 :: e238 :: e239 :: e240 :: e241 :: e242 :: e243 :: e244 :: e245 :: e246 :: e247 :: e248 :: e249 :: e250 :: e251 :: e252 :: e253 :: e254 :: e255 :: e256 :: e257 :: e258 :: e259 :: e260 :: e261 :: e262 :: e263 :: e264 :: e265 :: e266 :: e267 :: e268 :: e269 :: e270 :: e271 :: e272 :: e273 :: e274 :: e275 :: e276 :: e277 :: e278 :: e279 :: e280 :: e281 :: e282 :: e283 :: e284 :: e285 :: e286 :: e287 :: e288 :: e289 :: e290 :: e291 :: e292 :: e293 :: e294 :: e295 :: e296 :: e297 :: e298 :: e299 :: e300 :: e301 :: e302 :: e303 :: e304 :: e305 :: e306 :: e307 :: e308 :: e309 :: e310 :: e311 :: e312 :: e313 :: e314 :: e315 :: e316 :: [])) []) w') :
    Code.wp Tryz.prog (sumWord Tryz.f14) K (Act.mk (List.toArray (e0 :: Value.string T :: e2 :: e3 :: e4 :: e5 :: e6 :: e7 :: e8 :: e9 :: Value.int .i64 (64 * (m : Int)) :: Value.slice (some ⟨gw, 0, none⟩) t cw :: Value.int .i64 t :: u13 :: u14 :: u15 :: u16 :: u17 :: e18 :: e19 :: e20 :: e21 :: e22 :: e23 :: e24 :: e25 :: e26 :: e27 :: e28 :: e29 :: e30 :: e31 :: e32 :: e33 :: e34 :: e35 :: e36 :: e37 :: e38 :: e39 :: e40 :: e41 :: e42 :: e43 :: e44 :: e45 :: e46 :: e47 :: e48 :: e49 :: e50 :: e51 :: e52 :: e53 :: e54 :: e55 :: e56 :: e57 :: e58 :: e59 :: e60 :: e61 :: e62 :: e63 :: e64 :: e65 :: e66 :: e67 :: e68 :: e69 :: e70 :: u71 :: u72 :: u73 :: u74 :: u75 :: u76 :: u77 :: u78 :: u79 :: u80 :: u81 :: u82 :: u83 :: u84 :: u85 :: u86 :: u87 :: u88 :: u89 :: u90 :: u91 :: u92 :: u93 :: u94 :: u95 :: u96 :: u97 :: u98 :: u99 :: u100 :: u101 :: u102 :: u103 :: u104 :: u105 :: u106 :: u107 :: u108 :: u109 :: u110 :: u111 :: u112 :: u113 :: u114 :: u115 :: u116 :: u117 :: u118 :: u119 :: u120 :: u121 :: u122 :: u123 :: u124 :: u125 :: u126 :: u127 :: u128 :: u129 :: u130 :: u131 :: u132 :: u133 :: u134 :: u135 :: u136 :: u137 :: u138 :: u139 :: u140 :: u141 :: u142 :: u143 :: u144 :: u145 :: u146 :: u147 :: u148 :: u149 :: u150 :: u151 :: u152 :: u153 :: e154 :: e155 :: e156 :: e157 :: e158 :: e159 :: e160 :: e161 :: e162 :: e163 :: e164 :: e165 :: e166 :: e167 :: e168 :: e169 :: e170 :: e171 :: e172 :: e173 :: e174 :: e175 :: e176 :: e177 :: e178 :: e179 :: e180 :: e181 :: e182 :: e183 :: e184 :: e185 :: e186 :: e187 :: e188 :: e189 :: e190 :: e191 :: e192 :: e193 :: e194 :: e195 :: e196 :: e197 :: e198 :: e199 :: e200 :: e201 :: e202 :: e203 :: e204 :: e205 :: e206 :: e207 :: e208 :: e209 :: e210 :: e211 :: e212 :: e213 :: e214 :: e215 :: e216 :: e217 :: e218 :: e219 :: e220 :: e221 :: e222 :: e223 :: e224 :: e225 :: e226 :: e227 :: e228 :: e229 :: e230 :: e231 :: e232 :: e233 :: e234 :: e235 :: e236 :: e237 :: e238 :: e239 :: e240 :: e241 :: e242 :: e243 :: e244 :: e245 :: e246 :: e247 :: e248 :: e249 :: e250 :: e251 :: e252 :: e253 :: e254 :: e255 :: e256 :: e257 :: e258 :: e259 :: e260 :: e261 :: e262 :: e263 :: e264 :: e265 :: e266 :: e267 :: e268 :: e269 :: e270 :: e271 :: e272 :: e273 :: e274 :: e275 :: e276 :: e277 :: e278 :: e279 :: e280 :: e281 :: e282 :: e283 :: e284 :: e285 :: e286 :: e287 :: e288 :: e289 :: e290 :: e291 :: e292 :: e293 :: e294 :: e295 :: e296 :: e297 :: e298 :: e299 :: e300 :: e301 :: e302 :: e303 :: e304 :: e305 :: e306 :: e307 :: e308 :: e309 :: e310 :: e311 :: e312 :: e313 :: e314 :: e315 :: e316 :: [])) []) wr := by
  refine wp_mono (Q := Exit.then (K .normal) (fun _ _ _ => False)) ?_ (fun e a w h => by cases e <;> first | exact h | exact h.elim)
  conv => arg 2; whnf
  have hd64 : decide ((t : Int) < 64) = true := by simp; omega
  have r1 := rr_w 7 (by omega) w15
  have r2 := rr_w 18 (by omega) w15
  have r3 := xr_w r1 r2
  have r4 := shr_w 3 w15
  have r5 := rr_w 17 (by omega) w2'
  have r6 := rr_w 19 (by omega) w2'
  have r7 := xr_w r5 r6
  have r8 := shr_w 10 w2'
  have hs0 : xr (xr (rr 7 x15) (rr 18 x15)) (x15 / 8) = s0 x15 := rfl
  have hs1 : xr (xr (rr 17 x2) (rr 19 x2)) (x2 / 1024) = s1 x2 := rfl
  rw [show (2 : Int) ^ 3 = 8 from rfl] at r4
  rw [show (2 : Int) ^ 10 = 1024 from rfl] at r8
  obtain ⟨k0, k0'⟩ := s0_w w15
  obtain ⟨k1, k1'⟩ := s1_w w2'
  obtain ⟨k7, k7'⟩ := w7
  obtain ⟨k16, k16'⟩ := w16
  have h16' : ¬ (t : Int) < 16 := by omega
  have i0 : (16 : Int) ≤ t := by omega
  have i1 : (t : Int) < 64 := by omega
  have a7 : ((t : Int) - 7).toNat = t - 7 := by omega
  have a16 : ((t : Int) - 16).toNat = t - 16 := by omega
  have b7 : 0 ≤ (t : Int) - 7 := by omega
  have b16 : 0 ≤ (t : Int) - 16 := by omega
  have d7 : (t : Int) - 7 < t := by omega
  have d16 : (t : Int) - 16 < t := by omega
  have g7 : (7 : Int) ≤ t := by omega
  have g0 : (0 : Int) < 7 := by omega
  have g00 : (0 : Int) < 16 := by omega
  have j1 := wrap_id ((t : Int) - 7) (by omega) (by omega)
  have j2 := wrap_id ((t : Int) - 16) (by omega) (by omega)
  have j3 := wrap_id (s1 x2 + x7) (by omega) (by omega)
  have j4 := wrap_id (s1 x2 + x7 + s0 x15) (by omega) (by omega)
  have j5 := wrap_id (s1 x2 + x7 + s0 x15 + x16) (by omega) (by omega)
  have j6 : (s1 x2 + x7 + s0 x15 + x16).tmod 4294967296 = (s1 x2 + x7 + s0 x15 + x16) % 4294967296 := Int.tmod_eq_emod_of_nonneg (by omega)
  go_wp2_with (first | (go_at_call 41; refine (ref_right _ _ _ (by assumption) (by omega) (by omega)).mono ?_; rintro _ _ ⟨rfl, q, rfl⟩) | (go_at_call 42; refine (ref_half _ _ _ (by assumption) (by omega) (by omega)).mono ?_; rintro _ _ ⟨rfl, rfl⟩) | (go_at_call 40; refine (ref_xor _ _ _ (by assumption) (by assumption)).mono ?_; rintro _ _ ⟨rfl, rfl⟩))
  go_region_law (refine step_app wr rfl (.tmp 135) (.tmp 152) 42 3 .i64 8 rfl slI N _ wl rfl hW [(s1 x2 + x7 + s0 x15 + x16) % 4294967296] 1 1 3 rfl rfl rfl rfl rfl rfl (by rw [HWL.out]; omega) hbs2 ?_; intro wv' w6 hW' hgrow hat)
  go_wp2
  all_goals
    exact hK wv' _ _ (by go_num) hW' hgrow hat _ _ _ _ _ _ _ _ _ _ _ _ _ _ _ _ _ _ _ _ _ _ _ _ _ _ _ _ _ _ _ _ _ _ _ _ _ _ _ _ _ _ _ _ _ _ _ _ _ _ _ _ _ _ _ _ _ _ _ _ _ _ _ _ _ _ _ _ _ _ _ _ _ _ _ _ _ _ _ _ _ _ _ _ _ _ _ _
end Go.Proofs.YtaokemapkgggoaaGreatDoor

namespace Go.Proofs.YtaokemapkgggoaaGreatDoor
open Go.RowKit

set_option maxRecDepth 1000000 in
set_option maxHeartbeats 16000000 in
theorem sum_words (T : ByteArray) (m g9 c9 : Nat) (w wr : World) (b hs : List Int)
    (hm64 : 64 * m + 64 ≤ T.size) (hTb : T.size < 200000) (hbB : ∀ x ∈ b, isB x) (HTb : Hid (∀ j (h : j < 64), ((T[64 * m + j]'(by omega)).toNat : Int) = b.getD j 0))
    (hC : Cells9 wr g9 hs) (hB : Below w.heap.size w wr)
    (K : Exit → Act → World → Prop) (e0 e2 e3 e4 e5 e6 e7 e8 e9 e18 e19 e20 e21 e22 e23 e24 e25 e26 e27 e28 e29 e30 e31 e32 e33 e34 e35 e36 e37 e38 e39 e40 e41 e42 e43 e44 e45 e46 e47 e48 e49 e50 e51 e52 e53 e54 e55 e56 e57 e58 e59 e60 e61 e62 e63 e64 e65 e66 e67 e68 e69 e70 e154 e155 e156 e157 e158 e159 e160 e161 e162 e163 e164 e165 e166 e167 e168 e169 e170 e171 e172 e173 e174 e175 e176 e177 e178 e179 e180 e181 e182 e183 e184 e185 e186 e187 e188 e189 e190 e191 e192 e193 e194 e195 e196 e197 e198 e199 e200 e201 e202 e203 e204 e205 e206 e207 e208 e209 e210 e211 e212 e213 e214 e215 e216 e217 e218 e219 e220 e221 e222 e223 e224 e225 e226 e227 e228 e229 e230 e231 e232 e233 e234 e235 e236 e237 e238 e239 e240 e241 e242 e243 e244 e245 e246 e247 e248 e249 e250 e251 e252 e253 e254 e255 e256 e257 e258 e259 e260 e261 e262 e263 e264 e265 e266 e267 e268 e269 e270 e271 e272 e273 e274 e275 e276 e277 e278 e279 e280 e281 e282 e283 e284 e285 e286 e287 e288 e289 e290 e291 e292 e293 e294 e295 e296 e297 e298 e299 e300 e301 e302 e303 e304 e305 e306 e307 e308 e309 e310 e311 e312 e313 e314 e315 e316 u13 u14 u15 u16 u17 u71 u72 u73 u74 u75 u76 u77 u78 u79 u80 u81 u82 u83 u84 u85 u86 u87 u88 u89 u90 u91 u92 u93 u94 u95 u96 u97 u98 u99 u100 u101 u102 u103 u104 u105 u106 u107 u108 u109 u110 u111 u112 u113 u114 u115 u116 u117 u118 u119 u120 u121 u122 u123 u124 u125 u126 u127 u128 u129 u130 u131 u132 u133 u134 u135 u136 u137 u138 u139 u140 u141 u142 u143 u144 u145 u146 u147 u148 u149 u150 u151 u152 u153 : Value)
    (hK : ∀ (v11 v12 : Value) (w' : World), Own w' w.heap.size .i64 3 v11 (rowW b 64) → Cells9 w' g9 hs → Below w.heap.size w w' → ∀ v13 v14 v15 v16 v17 v71 v72 v73 v74 v75 v76 v77 v78 v79 v80 v81 v82 v83 v84 v85 v86 v87 v88 v89 v90 v91 v92 v93 v94 v95 v96 v97 v98 v99 v100 v101 v102 v103 v104 v105 v106 v107 v108 v109 v110 v111 v112 v113 v114 v115 v116 v117 v118 v119 v120 v121 v122 v123 v124 v125 v126 v127 v128 v129 v130 v131 v132 v133 v134 v135 v136 v137 v138 v139 v140 v141 v142 v143 v144 v145 v146 v147 v148 v149 v150 v151 v152 v153 : Value, K (.exit 6) (Act.mk (List.toArray (e0 :: Value.string T :: e2 :: e3 :: e4 :: e5 :: e6 :: e7 :: e8 :: e9 :: Value.int .i64 (64 * (m : Int)) :: v11 :: v12 :: v13 :: v14 :: v15 :: v16 :: v17 :: e18 :: e19 :: e20 :: e21 :: e22 :: e23 :: e24 :: e25 :: e26 :: e27 :: e28 :: e29 :: e30 :: e31 :: e32 :: e33 :: e34 :: e35 :: e36 :: e37 :: e38 :: e39 :: e40 :: e41 :: e42 :: e43 :: e44 :: e45 :: e46 :: e47 :: e48 :: e49 :: e50 :: e51 :: e52 :: e53 :: e54 :: e55 :: e56 :: e57 :: e58 :: e59 :: e60 :: e61 :: e62 :: e63 :: e64 :: e65 :: e66 :: e67 :: e68 :: e69 :: e70 :: v71 :: v72 :: v73 :: v74 :: v75 :: v76 :: v77 :: v78 :: v79 :: v80 :: v81 :: v82 :: v83 :: v84 :: v85 :: v86 :: v87 :: v88 :: v89 :: v90 :: v91 :: v92 :: v93 :: v94 :: v95 :: v96 :: v97 :: v98 :: v99 :: v100 :: v101 :: v102 :: v103 :: v104 :: v105 :: v106 :: v107 :: v108 :: v109 :: v110 :: v111 :: v112 :: v113 :: v114 :: v115 :: v116 :: v117 :: v118 :: v119 :: v120 :: v121 :: v122 :: v123 :: v124 :: v125 :: v126 :: v127 :: v128 :: v129 :: v130 :: v131 :: v132 :: v133 :: v134 :: v135 :: v136 :: v137 :: v138 :: v139 :: v140 :: v141 :: v142 :: v143 :: v144 :: v145 :: v146 :: v147 :: v148 :: v149 :: v150 :: v151 :: v152 :: v153 :: e154 :: e155 :: e156 :: e157 :: e158 :: e159 :: e160 :: e161 :: e162 :: e163 :: e164 :: e165 :: e166 :: e167 :: e168 :: e169 :: e170 :: e171 :: e172 :: e173 :: e174 :: e175 :: e176 :: e177 :: e178 :: e179 :: e180 :: e181 :: e182 :: e183 :: e184 :: e185 :: e186 :: e187 :: e188 :: e189 :: e190 :: e191 :: e192 :: e193 :: e194 :: e195 :: e196 :: e197 :: e198 :: e199 :: e200 :: e201 :: e202 :: e203 :: e204 :: e205 :: e206 :: e207 :: e208 :: e209 :: e210 :: e211 :: e212 :: e213 :: e214 :: e215 :: e216 :: e217 :: e218 :: e219 :: e220 :: e221 :: e222 :: e223 :: e224 :: e225 :: e226 :: e227 :: e228 :: e229 :: e230 :: e231 :: e232 :: e233 :: e234 :: e235 :: e236 :: e237 :: e238 :: e239 :: e240 :: e241 :: e242 :: e243 :: e244 :: e245 :: e246 :: e247 :: e248 :: e249 :: e250 :: e251 :: e252 :: e253 :: e254 :: e255 :: e256 :: e257 :: e258 :: e259 :: e260 :: e261 :: e262 :: e263 :: e264 :: e265 :: e266 :: e267 :: e268 :: e269 :: e270 :: e271 :: e272 :: e273 :: e274 :: e275 :: e276 :: e277 :: e278 :: e279 :: e280 :: e281 :: e282 :: e283 :: e284 :: e285 :: e286 :: e287 :: e288 :: e289 :: e290 :: e291 :: e292 :: e293 :: e294 :: e295 :: e296 :: e297 :: e298 :: e299 :: e300 :: e301 :: e302 :: e303 :: e304 :: e305 :: e306 :: e307 :: e308 :: e309 :: e310 :: e311 :: e312 :: e313 :: e314 :: e315 :: e316 :: [])) []) w') :
    Code.wp Tryz.prog (.loop (sumWord Tryz.f14)) K (Act.mk (List.toArray (e0 :: Value.string T :: e2 :: e3 :: e4 :: e5 :: e6 :: e7 :: e8 :: e9 :: Value.int .i64 (64 * (m : Int)) :: Value.slice none 0 0 :: Value.int .i64 0 :: u13 :: u14 :: u15 :: u16 :: u17 :: e18 :: e19 :: e20 :: e21 :: e22 :: e23 :: e24 :: e25 :: e26 :: e27 :: e28 :: e29 :: e30 :: e31 :: e32 :: e33 :: e34 :: e35 :: e36 :: e37 :: e38 :: e39 :: e40 :: e41 :: e42 :: e43 :: e44 :: e45 :: e46 :: e47 :: e48 :: e49 :: e50 :: e51 :: e52 :: e53 :: e54 :: e55 :: e56 :: e57 :: e58 :: e59 :: e60 :: e61 :: e62 :: e63 :: e64 :: e65 :: e66 :: e67 :: e68 :: e69 :: e70 :: u71 :: u72 :: u73 :: u74 :: u75 :: u76 :: u77 :: u78 :: u79 :: u80 :: u81 :: u82 :: u83 :: u84 :: u85 :: u86 :: u87 :: u88 :: u89 :: u90 :: u91 :: u92 :: u93 :: u94 :: u95 :: u96 :: u97 :: u98 :: u99 :: u100 :: u101 :: u102 :: u103 :: u104 :: u105 :: u106 :: u107 :: u108 :: u109 :: u110 :: u111 :: u112 :: u113 :: u114 :: u115 :: u116 :: u117 :: u118 :: u119 :: u120 :: u121 :: u122 :: u123 :: u124 :: u125 :: u126 :: u127 :: u128 :: u129 :: u130 :: u131 :: u132 :: u133 :: u134 :: u135 :: u136 :: u137 :: u138 :: u139 :: u140 :: u141 :: u142 :: u143 :: u144 :: u145 :: u146 :: u147 :: u148 :: u149 :: u150 :: u151 :: u152 :: u153 :: e154 :: e155 :: e156 :: e157 :: e158 :: e159 :: e160 :: e161 :: e162 :: e163 :: e164 :: e165 :: e166 :: e167 :: e168 :: e169 :: e170 :: e171 :: e172 :: e173 :: e174 :: e175 :: e176 :: e177 :: e178 :: e179 :: e180 :: e181 :: e182 :: e183 :: e184 :: e185 :: e186 :: e187 :: e188 :: e189 :: e190 :: e191 :: e192 :: e193 :: e194 :: e195 :: e196 :: e197 :: e198 :: e199 :: e200 :: e201 :: e202 :: e203 :: e204 :: e205 :: e206 :: e207 :: e208 :: e209 :: e210 :: e211 :: e212 :: e213 :: e214 :: e215 :: e216 :: e217 :: e218 :: e219 :: e220 :: e221 :: e222 :: e223 :: e224 :: e225 :: e226 :: e227 :: e228 :: e229 :: e230 :: e231 :: e232 :: e233 :: e234 :: e235 :: e236 :: e237 :: e238 :: e239 :: e240 :: e241 :: e242 :: e243 :: e244 :: e245 :: e246 :: e247 :: e248 :: e249 :: e250 :: e251 :: e252 :: e253 :: e254 :: e255 :: e256 :: e257 :: e258 :: e259 :: e260 :: e261 :: e262 :: e263 :: e264 :: e265 :: e266 :: e267 :: e268 :: e269 :: e270 :: e271 :: e272 :: e273 :: e274 :: e275 :: e276 :: e277 :: e278 :: e279 :: e280 :: e281 :: e282 :: e283 :: e284 :: e285 :: e286 :: e287 :: e288 :: e289 :: e290 :: e291 :: e292 :: e293 :: e294 :: e295 :: e296 :: e297 :: e298 :: e299 :: e300 :: e301 :: e302 :: e303 :: e304 :: e305 :: e306 :: e307 :: e308 :: e309 :: e310 :: e311 :: e312 :: e313 :: e314 :: e315 :: e316 :: [])) []) wr := by
  conv => arg 2; arg 1; whnf
  go_loopw [11, 12] (fun wv c ws => ∃ t : Nat, t ≤ 64 ∧ c = .int .i64 t ∧ Own ws w.heap.size .i64 3 wv (rowW b t) ∧ Sep wv (.slice (some ⟨g9, 0, none⟩) 8 c9) ∧ Cells9 ws g9 hs ∧ Below w.heap.size w ws) (fun _ c _ => 64 - (intOf c).toNat)
  case atStart => exact ⟨0, by omega, rfl, Own.nil _ _ _ _, Sep.nil _, hC, hB⟩
  case round =>
    clear hC hB
    obtain ⟨t, ht, rfl, hW, hsep, hC, hB⟩ := hrel
    have hbs2 := hB.size
    have HWL : Hid ((rowW b t).length = t) := rowW_length b t
    have HWS : Hid (rowW b (t + 1) = rowW b t ++ [wordAt b (rowW b t) t]) := rowW_succ b t
    have hww := rowW_w hbB t
    obtain ⟨wl, HWl⟩ : ∃ wl, Hid (wl = rowW b t) := ⟨_, rfl⟩
    rw [← HWl.out] at hW HWL HWS hww
    have hC1 := hC.lt
    by_cases hlt4 : t < 64
    · by_cases h16 : t < 16
      · have hwd : wordAt b wl t = word4 (b.getD (4 * t) 0) (b.getD (4 * t + 1) 0) (b.getD (4 * t + 2) 0) (b.getD (4 * t + 3) 0) := by unfold wordAt; rw [if_pos h16]
        rw [hwd] at HWS
        have HWs : Hid _ := HWS.out
        clear hwd HWS
        refine sum_word_a T m t w.heap.size wr u11 wl _ _ _ _ hm64 hTb hlt4 h16 (HTb.out (4 * t) (by omega)) (getD_isB hbB (4 * t)).2 (HTb.out (4 * t + 1) (by omega)) (getD_isB hbB (4 * t + 1)).2 (HTb.out (4 * t + 2) (by omega)) (getD_isB hbB (4 * t + 2)).2 (HTb.out (4 * t + 3) (by omega)) (getD_isB hbB (4 * t + 3)).2 hW HWL hbs2 _ _ _ _ _ _ _ _ _ _ _ _ _ _ _ _ _ _ _ _ _ _ _ _ _ _ _ _ _ _ _ _ _ _ _ _ _ _ _ _ _ _ _ _ _ _ _ _ _ _ _ _ _ _ _ _ _ _ _ _ _ _ _ _ _ _ _ _ _ _ _ _ _ _ _ _ _ _ _ _ _ _ _ _ _ _ _ _ _ _ _ _ _ _ _ _ _ _ _ _ _ _ _ _ _ _ _ _ _ _ _ _ _ _ _ _ _ _ _ _ _ _ _ _ _ _ _ _ _ _ _ _ _ _ _ _ _ _ _ _ _ _ _ _ _ _ _ _ _ _ _ _ _ _ _ _ _ _ _ _ _ _ _ _ _ _ _ _ _ _ _ _ _ _ _ _ _ _ _ _ _ _ _ _ _ _ _ _ _ _ _ _ _ _ _ _ _ _ _ _ _ _ _ _ _ _ _ _ _ _ _ _ _ _ _ _ _ _ _ _ _ _ _ _ _ _ _ _ _ _ _ _ _ _ _ _ _ _ _ _ _ _ _ _ _ _ _ _ _ _ _ _ _ _ _ _ _ _ _ _ _ _ _ _ _ _ _ _ _ _ _ _ _ _ _ _ _ _ _ _ _ _ _ _ _ _ _ _ _ _ _ _ _ _ _ _ _ _ _ _ _ _ _ _ _ _ _ _ _ _ _ _ _ _ ?_
        intro v11 v12 w' h12 hW' hgrow hat
        intros
        subst h12
        have hC' := hC.grown (u := .slice (some ⟨g9, 0, none⟩) 8 c9) hgrow rfl hsep
        have hsep' := hsep.app9 (u := .slice (some ⟨g9, 0, none⟩) 8 c9) rfl hC1 (Nat.le_succ _) hat
        have hB' := below_grown hB hgrow hW hbs2 (Nat.le_refl _)
        go_wp2
        refine ⟨⟨t + 1, by omega, rfl, by rw [HWs.out]; exact hW', hsep', hC', hB'⟩, by simp [intOf]; omega⟩
      · have hwd : wordAt b wl t = nextW (wl.getD (t - 16) 0) (wl.getD (t - 15) 0) (wl.getD (t - 7) 0) (wl.getD (t - 2) 0) := by unfold wordAt; rw [if_neg h16]
        rw [hwd] at HWS
        have HWs : Hid _ := HWS.out
        clear hwd HWS
        obtain ⟨gw, cw, hv, hgw, hgw2, hcw, -⟩ := hW.at (by rw [HWL.out]; omega)
        rw [HWL.out] at hv
        subst hv
        refine sum_word_b T m t w.heap.size gw cw wr wl _ _ _ _ hlt4 h16 (hcw (t - 15) (by rw [HWL.out]; omega)) (hcw (t - 2) (by rw [HWL.out]; omega)) (hcw (t - 7) (by rw [HWL.out]; omega)) (hcw (t - 16) (by rw [HWL.out]; omega)) (getD_isW hww (t - 15)) (getD_isW hww (t - 2)) (getD_isW hww (t - 7)) (getD_isW hww (t - 16)) hW HWL hbs2 _ _ _ _ _ _ _ _ _ _ _ _ _ _ _ _ _ _ _ _ _ _ _ _ _ _ _ _ _ _ _ _ _ _ _ _ _ _ _ _ _ _ _ _ _ _ _ _ _ _ _ _ _ _ _ _ _ _ _ _ _ _ _ _ _ _ _ _ _ _ _ _ _ _ _ _ _ _ _ _ _ _ _ _ _ _ _ _ _ _ _ _ _ _ _ _ _ _ _ _ _ _ _ _ _ _ _ _ _ _ _ _ _ _ _ _ _ _ _ _ _ _ _ _ _ _ _ _ _ _ _ _ _ _ _ _ _ _ _ _ _ _ _ _ _ _ _ _ _ _ _ _ _ _ _ _ _ _ _ _ _ _ _ _ _ _ _ _ _ _ _ _ _ _ _ _ _ _ _ _ _ _ _ _ _ _ _ _ _ _ _ _ _ _ _ _ _ _ _ _ _ _ _ _ _ _ _ _ _ _ _ _ _ _ _ _ _ _ _ _ _ _ _ _ _ _ _ _ _ _ _ _ _ _ _ _ _ _ _ _ _ _ _ _ _ _ _ _ _ _ _ _ _ _ _ _ _ _ _ _ _ _ _ _ _ _ _ _ _ _ _ _ _ _ _ _ _ _ _ _ _ _ _ _ _ _ _ _ _ _ _ _ _ _ _ _ _ _ _ _ _ _ _ _ _ _ _ _ _ _ _ _ _ _ ?_
        intro v11 v12 w' h12 hW' hgrow hat
        intros
        subst h12
        have hC' := hC.grown (u := .slice (some ⟨g9, 0, none⟩) 8 c9) hgrow rfl hsep
        have hsep' := hsep.app9 (u := .slice (some ⟨g9, 0, none⟩) 8 c9) rfl hC1 (Nat.le_succ _) hat
        have hB' := below_grown hB hgrow hW hbs2 (Nat.le_refl _)
        go_wp2
        refine ⟨⟨t + 1, by omega, rfl, by rw [HWs.out]; exact hW', hsep', hC', hB'⟩, by simp [intOf]; omega⟩
    · have ht64 : t = 64 := by omega
      have hdt : decide ((t : Int) < 64) = false := by simp; omega
      have hW64 : Own wr w.heap.size .i64 3 u11 (rowW b 64) := by rw [← ht64, ← HWl.out]; exact hW
      clear hW
      go_wp2
      exact hK _ _ wr hW64 hC hB _ _ _ _ _ _ _ _ _ _ _ _ _ _ _ _ _ _ _ _ _ _ _ _ _ _ _ _ _ _ _ _ _ _ _ _ _ _ _ _ _ _ _ _ _ _ _ _ _ _ _ _ _ _ _ _ _ _ _ _ _ _ _ _ _ _ _ _ _ _ _ _ _ _ _ _ _ _ _ _ _ _ _ _ _ _ _ _
end Go.Proofs.YtaokemapkgggoaaGreatDoor
