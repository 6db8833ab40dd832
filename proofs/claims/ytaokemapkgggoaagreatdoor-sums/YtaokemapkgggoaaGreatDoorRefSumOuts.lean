import Derived.Test.YtaokemapkgggoaaGreatDoorRefSumCode
namespace Go.Proofs.YtaokemapkgggoaaGreatDoor
open Go.RowKit

set_option maxRecDepth 1000000 in
set_option maxHeartbeats 16000000 in
theorem sum_outs (g9 c9 : Nat) (w wr : World) (fm : List Int) (hfm : W8 fm) (hC : Cells9 wr g9 fm) (hB : Below w.heap.size w wr)
    (K : Exit → Act → World → Prop) (e0 e1 e2 e3 e4 e5 e6 e7 e8 e10 e11 e12 e13 e14 e15 e16 e17 e18 e19 e20 e21 e22 e23 e24 e25 e26 e27 e30 e31 e32 e33 e34 e35 e36 e37 e38 e39 e40 e41 e42 e43 e44 e45 e46 e47 e48 e49 e50 e51 e52 e53 e54 e55 e56 e57 e58 e59 e60 e61 e62 e63 e64 e65 e66 e67 e68 e69 e70 e71 e72 e73 e74 e75 e76 e77 e78 e79 e80 e81 e82 e83 e84 e85 e86 e87 e88 e89 e90 e91 e92 e93 e94 e95 e96 e97 e98 e99 e100 e101 e102 e103 e104 e105 e106 e107 e108 e109 e110 e111 e112 e113 e114 e115 e116 e117 e118 e119 e120 e121 e122 e123 e124 e125 e126 e127 e128 e129 e130 e131 e132 e133 e134 e135 e136 e137 e138 e139 e140 e141 e142 e143 e144 e145 e146 e147 e148 e149 e150 e151 e152 e153 e154 e155 e156 e157 e158 e159 e160 e161 e162 e163 e164 e165 e166 e167 e168 e169 e170 e171 e172 e173 e174 e175 e176 e177 e178 e179 e180 e181 e182 e183 e184 e185 e186 e187 e188 e189 e190 e191 e192 e193 e194 e195 e196 e197 e198 e199 e200 e201 e202 e203 e204 e205 e206 e207 e208 e209 e210 e211 e212 e213 e214 e215 e216 e217 e218 e219 e220 e221 e222 e223 e224 e225 e226 e227 e228 e229 e230 e231 e232 e233 e234 e235 e236 e237 e238 e239 e240 e241 e242 e243 e244 e245 e246 e247 e248 e249 e250 e251 e252 e253 e254 e255 e256 e257 e258 e259 e260 e261 e262 e263 e264 e265 e266 e267 e268 e269 e270 e271 e272 e273 e274 e275 e276 e277 e278 e279 e280 e281 e315 e316 u282 u283 u284 u285 u286 u287 u288 u289 u290 u291 u292 u293 u294 u295 u296 u297 u298 u299 u300 u301 u302 u303 u304 u305 u306 u307 u308 u309 u310 u311 u312 u313 u314 : Value)
    (hK : ∀ (v28 v29 : Value) (w' : World), Own w' w.heap.size .u8 5 v28 (fm.flatMap four) → Below w.heap.size w w' → ∀ v282 v283 v284 v285 v286 v287 v288 v289 v290 v291 v292 v293 v294 v295 v296 v297 v298 v299 v300 v301 v302 v303 v304 v305 v306 v307 v308 v309 v310 v311 v312 v313 v314 : Value, K (.exit 12) (Act.mk (List.toArray (e0 :: e1 :: e2 :: e3 :: e4 :: e5 :: e6 :: e7 :: e8 :: Value.slice (some ⟨g9, 0, none⟩) 8 c9 :: e10 :: e11 :: e12 :: e13 :: e14 :: e15 :: e16 :: e17 :: e18 :: e19 :: e20 :: e21 :: e22 :: e23 :: e24 :: e25 :: e26 :: e27 :: v28 :: v29 :: e30 :: e31 :: e32 :: e33 :: e34 :: e35 :: e36 :: e37 :: e38 :: e39 :: e40 :: e41 :: e42 :: e43 :: e44 :: e45 :: e46 :: e47 :: e48 :: e49 :: e50 :: e51 :: e52 :: e53 :: e54 :: e55 :: e56 :: e57 :: e58 :: e59 :: e60 :: e61 :: e62 :: e63 :: e64 :: e65 :: e66 :: e67 :: e68 :: e69 :: e70 :: e71 :: e72 :: e73 :: e74 :: e75 :: e76 :: e77 :: e78 :: e79 :: e80 :: e81 :: e82 :: e83 :: e84 :: e85 :: e86 :: e87 :: e88 :: e89 :: e90 :: e91 :: e92 :: e93 :: e94 :: e95 :: e96 :: e97 :: e98 :: e99 :: e100 :: e101 :: e102 :: e103 :: e104 :: e105 :: e106 :: e107 :: e108 :: e109 :: e110 :: e111 :: e112 :: e113 :: e114 :: e115 :: e116 :: e117 :: e118 :: e119 :: e120 :: e121 :: e122 :: e123 :: e124 :: e125 :: e126 :: e127 :: e128 :: e129 :: e130 :: e131 :: e132 :: e133 :: e134 :: e135 :: e136 :: e137 :: e138 :: e139 :: e140 :: e141 :: e142 :: e143 :: e144 :: e145 :: e146 :: e147 :: e148 :: e149 :: e150 :: e151 :: e152 :: e153 :: e154 :: e155 :: e156 :: e157 :: e158 :: e159 :: e160 :: e161 :: e162 :: e163 :: e164 :: e165 :: e166 :: e167 :: e168 :: e169 :: e170 :: e171 :: e172 :: e173 :: e174 :: e175 :: e176 :: e177 :: e178 :: e179 :: e180 :: e181 :: e182 :: e183 :: e184 :: e185 :: e186 :: e187 :: e188 :: e189 :: e190 :: e191 :: e192 :: e193 :: e194 :: e195 :: e196 :: e197 :: e198 :: e199 :: e200 :: e201 :: e202 :: e203 :: e204 :: e205 :: e206 :: e207 :: e208 :: e209 :: e210 :: e211 :: e212 :: e213 :: e214 :: e215 :: e216 :: e217 :: e218 :: e219 :: e220 :: e221 :: e222 :: e223 :: e224 :: e225 :: e226 :: e227 :: e228 :: e229 :: e230 :: e231 :: e232 :: e233 :: e234 :: e235 :: e236 :: e237 :: e238 :: e239 :: e240 :: e241 :: e242 :: e243 :: e244 :: e245 :: e246 :: e247 :: e248 :: e249 :: e250 :: e251 :: e252 :: e253 :: e254 :: e255 :: e256 :: e257 :: e258 :: e259 :: e260 :: e261 :: e262 :: e263 :: e264 :: e265 :: e266 :: e267 :: e268 :: e269 :: e270 :: e271 :: e272 :: e273 :: e274 :: e275 :: e276 :: e277 :: e278 :: e279 :: e280 :: e281 :: v282 :: v283 :: v284 :: v285 :: v286 :: v287 :: v288 :: v289 :: v290 :: v291 :: v292 :: v293 :: v294 :: v295 :: v296 :: v297 :: v298 :: v299 :: v300 :: v301 :: v302 :: v303 :: v304 :: v305 :: v306 :: v307 :: v308 :: v309 :: v310 :: v311 :: v312 :: v313 :: v314 :: e315 :: e316 :: [])) []) w') :
    Code.wp Tryz.prog (.loop (sumOut Tryz.f14)) K (Act.mk (List.toArray (e0 :: e1 :: e2 :: e3 :: e4 :: e5 :: e6 :: e7 :: e8 :: Value.slice (some ⟨g9, 0, none⟩) 8 c9 :: e10 :: e11 :: e12 :: e13 :: e14 :: e15 :: e16 :: e17 :: e18 :: e19 :: e20 :: e21 :: e22 :: e23 :: e24 :: e25 :: e26 :: e27 :: Value.slice none 0 0 :: Value.int .i64 0 :: e30 :: e31 :: e32 :: e33 :: e34 :: e35 :: e36 :: e37 :: e38 :: e39 :: e40 :: e41 :: e42 :: e43 :: e44 :: e45 :: e46 :: e47 :: e48 :: e49 :: e50 :: e51 :: e52 :: e53 :: e54 :: e55 :: e56 :: e57 :: e58 :: e59 :: e60 :: e61 :: e62 :: e63 :: e64 :: e65 :: e66 :: e67 :: e68 :: e69 :: e70 :: e71 :: e72 :: e73 :: e74 :: e75 :: e76 :: e77 :: e78 :: e79 :: e80 :: e81 :: e82 :: e83 :: e84 :: e85 :: e86 :: e87 :: e88 :: e89 :: e90 :: e91 :: e92 :: e93 :: e94 :: e95 :: e96 :: e97 :: e98 :: e99 :: e100 :: e101 :: e102 :: e103 :: e104 :: e105 :: e106 :: e107 :: e108 :: e109 :: e110 :: e111 :: e112 :: e113 :: e114 :: e115 :: e116 :: e117 :: e118 :: e119 :: e120 :: e121 :: e122 :: e123 :: e124 :: e125 :: e126 :: e127 :: e128 :: e129 :: e130 :: e131 :: e132 :: e133 :: e134 :: e135 :: e136 :: e137 :: e138 :: e139 :: e140 :: e141 :: e142 :: e143 :: e144 :: e145 :: e146 :: e147 :: e148 :: e149 :: e150 :: e151 :: e152 :: e153 :: e154 :: e155 :: e156 :: e157 :: e158 :: e159 :: e160 :: e161 :: e162 :: e163 :: e164 :: e165 :: e166 :: e167 :: e168 :: e169 :: e170 :: e171 :: e172 :: e173 :: e174 :: e175 :: e176 :: e177 :: e178 :: e179 :: e180 :: e181 :: e182 :: e183 :: e184 :: e185 :: e186 :: e187 :: e188 :: e189 :: e190 :: e191 :: e192 :: e193 :: e194 :: e195 :: e196 :: e197 :: e198 :: e199 :: e200 :: e201 :: e202 :: e203 :: e204 :: e205 :: e206 :: e207 :: e208 :: e209 :: e210 :: e211 :: e212 :: e213 :: e214 :: e215 :: e216 :: e217 :: e218 :: e219 :: e220 :: e221 :: e222 :: e223 :: e224 :: e225 :: e226 :: e227 :: e228 :: e229 :: e230 :: e231 :: e232 :: e233 :: e234 :: e235 :: e236 :: e237 :: e238 :: e239 :: e240 :: e241 :: e242 :: e243 :: e244 :: e245 :: e246 :: e247 :: e248 :: e249 :: e250 :: e251 :: e252 :: e253 :: e254 :: e255 :: e256 :: e257 :: e258 :: e259 :: e260 :: e261 :: e262 :: e263 :: e264 :: e265 :: e266 :: e267 :: e268 :: e269 :: e270 :: e271 :: e272 :: e273 :: e274 :: e275 :: e276 :: e277 :: e278 :: e279 :: e280 :: e281 :: u282 :: u283 :: u284 :: u285 :: u286 :: u287 :: u288 :: u289 :: u290 :: u291 :: u292 :: u293 :: u294 :: u295 :: u296 :: u297 :: u298 :: u299 :: u300 :: u301 :: u302 :: u303 :: u304 :: u305 :: u306 :: u307 :: u308 :: u309 :: u310 :: u311 :: u312 :: u313 :: u314 :: e315 :: e316 :: [])) []) wr := by
  conv => arg 2; arg 1; whnf
  have hfl : Hid (fm.length = 8) := hfm.len
  go_loopw [28, 29] (fun ov c ws => ∃ i : Nat, i ≤ 8 ∧ c = .int .i64 i ∧ Own ws w.heap.size .u8 5 ov ((fm.take i).flatMap four) ∧ Sep ov (.slice (some ⟨g9, 0, none⟩) 8 c9) ∧ Cells9 ws g9 fm ∧ Below w.heap.size w ws) (fun _ c _ => 8 - (intOf c).toNat)
  case atStart => exact ⟨0, by omega, rfl, Own.nil _ _ _ _, Sep.nil _, hC, hB⟩
  case round =>
    clear hC hB
    obtain ⟨i, hi, rfl, hO, hsep, hC, hB⟩ := hrel
    have hbs2 := hB.size
    have hC1 := hC.lt
    have hol : Hid (((fm.take i).flatMap four).length = 4 * i) := by show _ = _; rw [flat_length, List.length_take, hfl.out]; omega
    have HOS : Hid (i < 8 → (fm.take (i + 1)).flatMap four = (fm.take i).flatMap four ++ four (fm.getD i 0)) := by
      intro h8
      have h9 : i < fm.length := by rw [hfl.out]; exact h8
      rw [List.take_succ_eq_append_getElem h9, List.flatMap_append, show fm.getD i 0 = fm[i] by simp [List.getD, h9]]
      simp
    obtain ⟨ol, HOl⟩ : ∃ ol, Hid (ol = (fm.take i).flatMap four) := ⟨_, rfl⟩
    rw [← HOl.out] at hO hol HOS
    by_cases hlt7 : i < 8
    · have d1 : wr.cell? ⟨g9, i, none⟩ = some (.int .i64 (fm.getD i 0)) := hC.at' i (by rw [hfl.out]; exact hlt7)
      have HOs' := HOS.out hlt7
      have hk6 : ∀ w6, wr.grownBy w6 u28.ownBlock → w6.cell? ⟨g9, i, none⟩ = some (.int .i64 (fm.getD i 0)) := fun w6 hg => (hC.grown (u := .slice (some ⟨g9, 0, none⟩) 8 c9) hg rfl hsep).at' i (by rw [hfl.out]; exact hlt7)
      obtain ⟨o0, o1⟩ := getD_isW hfm.all i
      have HOs : Hid _ := HOs'
      clear HOs'
      generalize fm.getD i 0 = x at *
      have i0 : (i : Int) < 8 := by omega
      have i1 : (0 : Int) ≤ i := by omega
      have t1 : x.tdiv 16777216 = x / 16777216 := Int.tdiv_eq_ediv_of_nonneg (by omega)
      have t2 : x.tdiv 65536 = x / 65536 := Int.tdiv_eq_ediv_of_nonneg (by omega)
      have t3 : x.tdiv 256 = x / 256 := Int.tdiv_eq_ediv_of_nonneg (by omega)
      have t4 : x.tmod 256 = x % 256 := Int.tmod_eq_emod_of_nonneg (by omega)
      have t5 : (x / 65536).tmod 256 = x / 65536 % 256 := Int.tmod_eq_emod_of_nonneg (by omega)
      have t6 : (x / 256).tmod 256 = x / 256 % 256 := Int.tmod_eq_emod_of_nonneg (by omega)
      have w1' := wrap_id (x / 16777216) (by omega) (by omega)
      have w2' := wrap_id (x / 65536) (by omega) (by omega)
      have w3' := wrap_id (x / 256) (by omega) (by omega)
      have b1' := wrap8_id (x / 16777216) (by omega) (by omega)
      have b2' := wrap8_id (x / 65536 % 256) (by omega) (by omega)
      have b3' := wrap8_id (x / 256 % 256) (by omega) (by omega)
      have b4' := wrap8_id (x % 256) (by omega) (by omega)
      go_wp2
      go_region_held3 (fun w' => w'.cell? ⟨g9, i, none⟩ = some (.int .i64 x)) (first | exact d1 | go_keep | exact hk6 _ hgrow) (first | (refine step_app wr rfl (.tmp 286) (.tmp 313) 49 5 .u8 1 rfl slB w.heap.size _ ol rfl hO [x / 16777216, x / 65536 % 256, x / 256 % 256, x % 256] 4 4 5 rfl rfl rfl rfl rfl rfl (by rw [hol.out]; omega) hbs2 ?_; intro ov' w6 hO' hgrow hat))
      all_goals go_wp2
      all_goals
        have hC' := hC.grown (u := .slice (some ⟨g9, 0, none⟩) 8 c9) hgrow rfl hsep
        have hsep' := hsep.app9 (u := .slice (some ⟨g9, 0, none⟩) 8 c9) rfl hC1 (Nat.le_succ _) hat
        have hB' := below_grown hB hgrow hO hbs2 (Nat.le_refl _)
        refine ⟨⟨i + 1, by omega, by go_num, by rw [HOs.out]; exact hO', hsep', hC', hB'⟩, by simp [intOf]; omega⟩
    · have hi8 : i = 8 := by omega
      have hO8 : Own wr w.heap.size .u8 5 u28 (fm.flatMap four) := by
        have e8' : ol = fm.flatMap four := by rw [HOl.out, hi8, List.take_of_length_le (by rw [hfl.out]; omega)]
        rw [← e8']; exact hO
      have hdi : decide ((i : Int) < 8) = false := by simp; omega
      clear hO hi8
      go_wp2
      exact hK _ _ wr hO8 hB _ _ _ _ _ _ _ _ _ _ _ _ _ _ _ _ _ _ _ _ _ _ _ _ _ _ _ _ _ _ _ _ _
end Go.Proofs.YtaokemapkgggoaaGreatDoor
