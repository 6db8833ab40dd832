import Derived.Test.YtaokemapkgggoaaGreatDoorFd16
import Derived.Test.YtaokemapkgggoaaGreatDoorFd19
namespace Go.Proofs.YtaokemapkgggoaaGreatDoor
open Go.RowKit

set_option maxRecDepth 1000000 in
set_option maxHeartbeats 16000000 in
theorem sum_outs (g9 c9 : Nat) (w wr : World) (fm : List Int) (hfm : W8 fm) (hC : Cells9 wr g9 fm) (hB : Below w.heap.size w wr)
    (K : Exit → Act → World → Prop) (e0 e1 e2 e3 e4 e5 e6 e7 e8 e10 e11 e12 e13 e14 e15 e16 e17 e18 e19 e20 e21 e22 e23 e24 e25 e26 e27 e30 e31 e32 e33 e34 e35 e36 e37 e38 e39 e40 e41 e42 e43 e44 e45 e46 e47 e48 e49 e50 e51 e52 e53 e54 e55 e56 e57 e58 e59 e60 e61 e62 e63 e64 e65 e66 e67 e68 e69 e70 e71 e72 e73 e74 e75 e76 e77 e78 e79 e80 e81 e82 e83 e84 e85 e86 e87 e88 e89 e90 e91 e92 e93 e94 e95 e96 e97 e98 e99 e100 e101 e102 e103 e104 e105 e106 e107 e108 e109 e110 e111 e112 e113 e114 e115 e116 e117 e118 e119 e120 e121 e122 e123 e124 e125 e126 e127 e128 e129 e130 e131 e132 e133 e134 e135 e136 e137 e138 e139 e140 e141 e142 e143 e144 e145 e146 e147 e148 e149 e150 e151 e152 e153 e154 e155 e156 e157 e158 e159 e160 e161 e162 e163 e164 e165 e166 e167 e168 e169 e170 e171 e172 e173 e174 e175 e176 e177 e178 e179 e180 e181 e182 e183 e184 e185 e186 e187 e188 e189 e190 e191 e192 e193 e194 e195 e196 e197 e198 e199 e200 e201 e202 e203 e204 e205 e206 e207 e208 e209 e210 e211 e212 e213 e214 e215 e216 e217 e218 e219 e220 e221 e222 e223 e224 e225 e226 e227 e228 e229 e230 e231 e232 e233 e234 e235 e236 e237 e238 e239 e240 e241 e242 e243 e244 e245 e246 e247 e248 e249 e250 e251 e252 e253 e254 e255 e256 e257 e258 e259 e260 e261 e262 e263 e264 e265 e266 e267 e268 e269 e270 e271 e272 e273 e274 e275 e276 e277 e278 e279 e280 e281 e315 e316 u282 u283 u284 u285 u286 u287 u288 u289 u290 u291 u292 u293 u294 u295 u296 u297 u298 u299 u300 u301 u302 u303 u304 u305 u306 u307 u308 u309 u310 u311 u312 u313 u314 : Value)
    (hK : ∀ (v28 v29 : Value) (w' : World), Own w' w.heap.size .u8 5 v28 (fm.flatMap four) → Below w.heap.size w w' → ∀ v282 v283 v284 v285 v286 v287 v288 v289 v290 v291 v292 v293 v294 v295 v296 v297 v298 v299 v300 v301 v302 v303 v304 v305 v306 v307 v308 v309 v310 v311 v312 v313 v314 : Value, K (.exit 12) (Act.mk (List.toArray (e0 :: e1 :: e2 :: e3 :: e4 :: e5 :: e6 :: e7 :: e8 :: Value.slice (some ⟨g9, 0, none⟩) 8 c9 :: e10 :: e11 :: e12 :: e13 :: e14 :: e15 :: e16 :: e17 :: e18 :: e19 :: e20 :: e21 :: e22 :: e23 :: e24 :: e25 :: e26 :: e27 :: v28 :: v29 :: e30 :: e31 :: e32 :: e33 :: e34 :: e35 :: e36 :: e37 :: e38 :: e39 :: e40 :: e41 :: e42 :: e43 :: e44 :: e45 :: e46 :: e47 :: e48 :: e49 :: e50 :: e51 :: e52 :: e53 :: e54 :: e55 :: e56 :: e57 :: e58 :: e59 :: e60 :: e61 :: e62 :: e63 :: e64 :: e65 :: e66 :: e67 :: e68 :: e69 :: e70 :: e71 :: e72 :: e73 :: e74 :: e75 :: e76 :: e77 :: e78 :: e79 :: e80 :: e81 :: e82 :: e83 :: e84 :: e85 :: e86 :: e87 :: e88 :: e89 :: e90 :: e91 :: e92 :: e93 :: e94 :: e95 :: e96 :: e97 :: e98 :: e99 :: e100 :: e101 :: e102 :: e103 :: e104 :: e105 :: e106 :: e107 :: e108 :: e109 :: e110 :: e111 :: e112 :: e113 :: e114 :: e115 :: e116 :: e117 :: e118 :: e119 :: e120 :: e121 :: e122 :: e123 :: e124 :: e125 :: e126 :: e127 :: e128 :: e129 :: e130 :: e131 :: e132 :: e133 :: e134 :: e135 :: e136 :: e137 :: e138 :: e139 :: e140 :: e141 :: e142 :: e143 :: e144 :: e145 :: e146 :: e147 :: e148 :: e149 :: e150 :: e151 :: e152 :: e153 :: e154 :: e155 :: e156 :: e157 :: e158 :: e159 :: e160 :: e161 :: e162 :: e163 :: e164 :: e165 :: e166 :: e167 :: e168 :: e169 :: e170 :: e171 :: e172 :: e173 :: e174 :: e175 :: e176 :: e177 :: e178 :: e179 :: e180 :: e181 :: e182 :: e183 :: e184 :: e185 :: e186 :: e187 :: e188 :: e189 :: e190 :: e191 :: e192 :: e193 :: e194 :: e195 :: e196 :: e197 :: e198 :: e199 :: e200 :: e201 :: e202 :: e203 :: e204 :: e205 :: e206 :: e207 :: e208 :: e209 :: e210 :: e211 :: e212 :: e213 :: e214 :: e215 :: e216 :: e217 :: e218 :: e219 :: e220 :: e221 :: e222 :: e223 :: e224 :: e225 :: e226 :: e227 :: e228 :: e229 :: e230 :: e231 :: e232 :: e233 :: e234 :: e235 :: e236 :: e237 :: e238 :: e239 :: e240 :: e241 :: e242 :: e243 :: e244 :: e245 :: e246 :: e247 :: e248 :: e249 :: e250 :: e251 :: e252 :: e253 :: e254 :: e255 :: e256 :: e257 :: e258 :: e259 :: e260 :: e261 :: e262 :: e263 :: e264 :: e265 :: e266 :: e267 :: e268 :: e269 :: e270 :: e271 :: e272 :: e273 :: e274 :: e275 :: e276 :: e277 :: e278 :: e279 :: e280 :: e281 :: v282 :: v283 :: v284 :: v285 :: v286 :: v287 :: v288 :: v289 :: v290 :: v291 :: v292 :: v293 :: v294 :: v295 :: v296 :: v297 :: v298 :: v299 :: v300 :: v301 :: v302 :: v303 :: v304 :: v305 :: v306 :: v307 :: v308 :: v309 :: v310 :: v311 :: v312 :: v313 :: v314 :: e315 :: e316 :: [])) []) w') :
    Code.wp Tryz.prog (.loop (sumOut Tryz.f14)) K (Act.mk (List.toArray (e0 :: e1 :: e2 :: e3 :: e4 :: e5 :: e6 :: e7 :: e8 :: Value.slice (some ⟨g9, 0, none⟩) 8 c9 :: e10 :: e11 :: e12 :: e13 :: e14 :: e15 :: e16 :: e17 :: e18 :: e19 :: e20 :: e21 :: e22 :: e23 :: e24 :: e25 :: e26 :: e27 :: Value.slice none 0 0 :: Value.int .i64 0 :: e30 :: e31 :: e32 :: e33 :: e34 :: e35 :: e36 :: e37 :: e38 :: e39 :: e40 :: e41 :: e42 :: e43 :: e44 :: e45 :: e46 :: e47 :: e48 :: e49 :: e50 :: e51 :: e52 :: e53 :: e54 :: e55 :: e56 :: e57 :: e58 :: e59 :: e60 :: e61 :: e62 :: e63 :: e64 :: e65 :: e66 :: e67 :: e68 :: e69 :: e70 :: e71 :: e72 :: e73 :: e74 :: e75 :: e76 :: e77 :: e78 :: e79 :: e80 :: e81 :: e82 :: e83 :: e84 :: e85 :: e86 :: e87 :: e88 :: e89 :: e90 :: e91 :: e92 :: e93 :: e94 :: e95 :: e96 :: e97 :: e98 :: e99 :: e100 :: e101 :: e102 :: e103 :: e104 :: e105 :: e106 :: e107 :: e108 :: e109 :: e110 :: e111 :: e112 :: e113 :: e114 :: e115 :: e116 :: e117 :: e118 :: e119 :: e120 :: e121 :: e122 :: e123 :: e124 :: e125 :: e126 :: e127 :: e128 :: e129 :: e130 :: e131 :: e132 :: e133 :: e134 :: e135 :: e136 :: e137 :: e138 :: e139 :: e140 :: e141 :: e142 :: e143 :: e144 :: e145 :: e146 :: e147 :: e148 :: e149 :: e150 :: e151 :: e152 :: e153 :: e154 :: e155 :: e156 :: e157 :: e158 :: e159 :: e160 :: e161 :: e162 :: e163 :: e164 :: e165 :: e166 :: e167 :: e168 :: e169 :: e170 :: e171 :: e172 :: e173 :: e174 :: e175 :: e176 :: e177 :: e178 :: e179 :: e180 :: e181 :: e182 :: e183 :: e184 :: e185 :: e186 :: e187 :: e188 :: e189 :: e190 :: e191 :: e192 :: e193 :: e194 :: e195 :: e196 :: e197 :: e198 :: e199 :: e200 :: e201 :: e202 :: e203 :: e204 :: e205 :: e206 :: e207 :: e208 :: e209 :: e210 :: e211 :: e212 :: e213 :: e214 :: e215 :: e216 :: e217 :: e218 :: e219 :: e220 :: e221 :: e222 :: e223 :: e224 :: e225 :: e226 :: e227 :: e228 :: e229 :: e230 :: e231 :: e232 :: e233 :: e234 :: e235 :: e236 :: e237 :: e238 :: e239 :: e240 :: e241 :: e242 :: e243 :: e244 :: e245 :: e246 :: e247 :: e248 :: e249 :: e250 :: e251 :: e252 :: e253 :: e254 :: e255 :: e256 :: e257 :: e258 :: e259 :: e260 :: e261 :: e262 :: e263 :: e264 :: e265 :: e266 :: e267 :: e268 :: e269 :: e270 :: e271 :: e272 :: e273 :: e274 :: e275 :: e276 :: e277 :: e278 :: e279 :: e280 :: e281 :: u282 :: u283 :: u284 :: u285 :: u286 :: u287 :: u288 :: u289 :: u290 :: u291 :: u292 :: u293 :: u294 :: u295 :: u296 :: u297 :: u298 :: u299 :: u300 :: u301 :: u302 :: u303 :: u304 :: u305 :: u306 :: u307 :: u308 :: u309 :: u310 :: u311 :: u312 :: u313 :: u314 :: e315 :: e316 :: [])) []) wr := by
  conv => arg 2; arg 1; whnf
  have hfl : Hid (fm.length = 8) := hfm.len
  go_loopw [28, 29] (fun ov c ws => ∃ i : Nat, i ≤ 8 ∧ c = .int .i64 i ∧ Own ws w.heap.size .u8 5 ov ((fm.take i).flatMap four) ∧ Sep ov (.slice (some ⟨g9, 0, none⟩) 8 c9) ∧ Cells9 ws g9 fm ∧ Below w.heap.size w ws) (fun _ c _ => 8 - (intOf c).toNat)
  case atStart => exact ⟨0, by omega, rfl, Own.nil _ _ _ _, Sep.nil _, hC, hB⟩
  case round =>
    clear hC hB
    obtain ⟨i, hi, rfl, hO, hsep, hC, hB⟩ := hrel
    have hbs2 := hB.size
    have hC1 := hC.lt
    have hol : Hid (((fm.take i).flatMap four).length = 4 * i) := by show _ = _; rw [flat_length, List.length_take, hfl.out]; omega
    have HOS : Hid (i < 8 → (fm.take (i + 1)).flatMap four = (fm.take i).flatMap four ++ four (fm.getD i 0)) := by
      intro h8
      have h9 : i < fm.length := by rw [hfl.out]; exact h8
      rw [List.take_succ_eq_append_getElem h9, List.flatMap_append, show fm.getD i 0 = fm[i] by simp [List.getD, h9]]
      simp
    obtain ⟨ol, HOl⟩ : ∃ ol, Hid (ol = (fm.take i).flatMap four) := ⟨_, rfl⟩
    rw [← HOl.out] at hO hol HOS
    by_cases hlt7 : i < 8
    · have d1 : wr.cell? ⟨g9, i, none⟩ = some (.int .i64 (fm.getD i 0)) := hC.at' i (by rw [hfl.out]; exact hlt7)
      have HOs' := HOS.out hlt7
      have hk6 : ∀ w6, wr.grownBy w6 u28.ownBlock → w6.cell? ⟨g9, i, none⟩ = some (.int .i64 (fm.getD i 0)) := fun w6 hg => (hC.grown (u := .slice (some ⟨g9, 0, none⟩) 8 c9) hg rfl hsep).at' i (by rw [hfl.out]; exact hlt7)
      obtain ⟨o0, o1⟩ := getD_isW hfm.all i
      have HOs : Hid _ := HOs'
      clear HOs'
      generalize fm.getD i 0 = x at *
      have i0 : (i : Int) < 8 := by omega
      have i1 : (0 : Int) ≤ i := by omega
      have t1 : x.tdiv 16777216 = x / 16777216 := Int.tdiv_eq_ediv_of_nonneg (by omega)
      have t2 : x.tdiv 65536 = x / 65536 := Int.tdiv_eq_ediv_of_nonneg (by omega)
      have t3 : x.tdiv 256 = x / 256 := Int.tdiv_eq_ediv_of_nonneg (by omega)
      have t4 : x.tmod 256 = x % 256 := Int.tmod_eq_emod_of_nonneg (by omega)
      have t5 : (x / 65536).tmod 256 = x / 65536 % 256 := Int.tmod_eq_emod_of_nonneg (by omega)
      have t6 : (x / 256).tmod 256 = x / 256 % 256 := Int.tmod_eq_emod_of_nonneg (by omega)
      have w1' := wrap_id (x / 16777216) (by omega) (by omega)
      have w2' := wrap_id (x / 65536) (by omega) (by omega)
      have w3' := wrap_id (x / 256) (by omega) (by omega)
      have b1' := wrap8_id (x / 16777216) (by omega) (by omega)
      have b2' := wrap8_id (x / 65536 % 256) (by omega) (by omega)
      have b3' := wrap8_id (x / 256 % 256) (by omega) (by omega)
      have b4' := wrap8_id (x % 256) (by omega) (by omega)
      go_wp2
      go_region_held3 (fun w' => w'.cell? ⟨g9, i, none⟩ = some (.int .i64 x)) (first | exact d1 | go_keep | exact hk6 _ hgrow) (first | (refine step_app wr rfl (.tmp 286) (.tmp 313) 49 5 .u8 1 rfl slB w.heap.size _ ol rfl hO [x / 16777216, x / 65536 % 256, x / 256 % 256, x % 256] 4 4 5 rfl rfl rfl rfl rfl rfl (by rw [hol.out]; omega) hbs2 ?_; intro ov' w6 hO' hgrow hat))
      all_goals go_wp2
      all_goals
        have hC' := hC.grown (u := .slice (some ⟨g9, 0, none⟩) 8 c9) hgrow rfl hsep
        have hsep' := hsep.app9 (u := .slice (some ⟨g9, 0, none⟩) 8 c9) rfl hC1 (Nat.le_succ _) hat
        have hB' := below_grown hB hgrow hO hbs2 (Nat.le_refl _)
        refine ⟨⟨i + 1, by omega, by go_num, by rw [HOs.out]; exact hO', hsep', hC', hB'⟩, by simp [intOf]; omega⟩
    · have hi8 : i = 8 := by omega
      have hO8 : Own wr w.heap.size .u8 5 u28 (fm.flatMap four) := by
        have e8' : ol = fm.flatMap four := by rw [HOl.out, hi8, List.take_of_length_le (by rw [hfl.out]; omega)]
        rw [← e8']; exact hO
      have hdi : decide ((i : Int) < 8) = false := by simp; omega
      clear hO hi8
      go_wp2
      exact hK _ _ wr hO8 hB _ _ _ _ _ _ _ _ _ _ _ _ _ _ _ _ _ _ _ _ _ _ _ _ _ _ _ _ _ _ _ _ _
end Go.Proofs.YtaokemapkgggoaaGreatDoor

namespace Go.Proofs.YtaokemapkgggoaaGreatDoor
open Go.RowKit

set_option maxRecDepth 100000 in
set_option maxHeartbeats 16000000 in
theorem ref_sum (s : ByteArray) (g : Nat) (w : World) (hS : Summ w g) (hs : s.size < 100000) :
    Calls Tryz.prog 14 #[.pointer (some ⟨g, 0, none⟩), .string s] w fun r w' => r = .returned (.string (strOfNums (sumSpecRef s.data.toList))) ∧ Below w.heap.size w w' := by
  obtain ⟨gk, ck, gh, ch, q1, q2, q3, q4, q5, q6⟩ := hS
  have hgl : g < w.heap.size := World.block_lt_of_cell? _ _ q1
  obtain ⟨l, HL⟩ : ∃ l, Hid (l = s.data.toList) := ⟨_, rfl⟩
  have hll : Hid (l.length = s.size) := by show _ = _; rw [HL.out, Array.length_toList]; rfl
  go_enter Tryz.func14, Tryz.ntmps14
  go_wp2
  go_loop [1] (fun c => ∃ (j : Nat) (u : ByteArray), j ≤ padN s.size ∧ c = .string u ∧ Hid (u.data.toList = l ++ (128 :: List.replicate j 0)) ∧ Hid (u.size = s.size + 1 + j)) (fun c => s.size + 1 + padN s.size - (match c with | .string u => u.size | _ => 0))
  case atStart => exact ⟨0, s ++ ⟨#[128]⟩, by omega, rfl, by show _ = _; rw [HL.out]; simp, by show _ = _; simp [ByteArray.size_append]; rfl⟩
  case round =>
    obtain ⟨j, u, hj, rfl, HU, HZ⟩ := hrel
    have hpl : padN s.size < 64 := by unfold padN; omega
    by_cases hlt : u.size % 64 = 56
    · have hz := HZ.out
      have hjp : j = padN s.size := by unfold padN at *; omega
      have HJ : Hid _ := hjp
      clear hjp
      have ht1 : ((u.size : Int) % 64 != 56) = false := by rw [bne_eq_false_iff_eq]; omega
      clear hlt hz
      obtain ⟨pw, HPw⟩ : ∃ pw : Nat → Int, Hid (pw = fun i => 72057594037927936 / 256 ^ i) := ⟨fun i => 72057594037927936 / 256 ^ i, show _ = _ from rfl⟩
      have HPw0 : Hid (pw 0 = 72057594037927936) := by show _ = _; rw [HPw.out]; rfl
      have HPwS : Hid (∀ i, pw i / 256 = pw (i + 1)) := by rw [HPw.out]; exact div_256
      have HPwB : Hid (∀ i, i < 8 → 1 ≤ pw i ∧ pw i ≤ 72057594037927936) := by rw [HPw.out]; intro i hi; show 1 ≤ (72057594037927936 : Int) / 256 ^ i ∧ (72057594037927936 : Int) / 256 ^ i ≤ _; rw [pow_step i hi]; exact pow_bd8 i hi
      obtain ⟨e8, HE⟩ : ∃ e8, Hid (e8 = eightTo (8 * s.size) 8) := ⟨_, rfl⟩
      have HE8 : Hid (e8.length = 8) := by show _ = _; rw [HE.out, eightTo_length]
      have HEs : Hid (∀ i, i < 8 → e8.take (i + 1) = e8.take i ++ [8 * (s.size : Int) / pw i % 256]) := by
        intro i hi; rw [HE.out, HPw.out]; show _ = _ ++ [8 * (s.size : Int) / (72057594037927936 / 256 ^ i) % 256]; rw [pow_step i hi]; exact eightTo_take _ i hi
      have HEB : Hid (∀ x ∈ e8, isB x) := by rw [HE.out]; exact eightTo_B _ _
      go_wp2
      go_loopw [6, 7, 8] (fun tv pv c wr => ∃ i : Nat, i ≤ 8 ∧ c = .int .i64 i ∧ pv = .int .i64 (pw i) ∧ Own wr w.heap.size .u8 5 tv (e8.take i) ∧ Below w.heap.size w wr) (fun _ _ c _ => 8 - (intOf c).toNat)
      case atStart => exact ⟨0, by omega, rfl, by rw [HPw0.out], Own.nil _ _ _ _, Below.refl _ _⟩
      case round =>
        obtain ⟨i, hi, rfl, rfl, hown, hB⟩ := hrel
        have hbs := hB.size
        have htl : (e8.take i).length = i := by rw [List.length_take, HE8.out]; omega
        have HTL : Hid _ := htl
        by_cases hlt : i < 8
        · obtain ⟨p1, p2⟩ := HPwB.out i hlt
          have HS := HPwS.out i
          have HSh : Hid _ := HS
          have HEi : Hid _ := HEs.out i hlt
          clear HS htl
          have hq0 : 0 ≤ 8 * (s.size : Int) / pw i := Int.ediv_nonneg (by omega) (by omega)
          have hq1 : 8 * (s.size : Int) / pw i ≤ 8 * (s.size : Int) := Int.ediv_le_self _ (by omega)
          generalize pw i = p at *
          go_wp2_with (at_builtin; refine wpList_app1 rfl (.tmp 45) (.tmp 51) 49 5 .u8 1 rfl slB w.heap.size _ (e8.take i) rfl hown _ _ _ rfl (by rw [HTL.out]; omega) hbs ?_; intro tv' w1 hown' hgrow _)
          refine ⟨⟨i + 1, by omega, by go_num, by rw [HSh.out], by rw [HEi.out]; exact hown', below_grown hB hgrow hown hbs (Nat.le_refl _)⟩, by simp [intOf]; omega⟩
        · have hi8 : i = 8 := by omega
          have e1 : e8.take i = e8 := List.take_of_length_le (by rw [HE8.out]; omega)
          rw [e1] at hown
          clear hi8 e1 htl HTL
          obtain ⟨gt, ct, hv, hgt1, hgt2, hcell, -⟩ := hown.at (by rw [HE8.out]; omega)
          rw [HE8.out] at hv
          subst hv
          have hconv := run_convert_bytes_arg wr 49 5 under_bytes under_u8 gt 0 8 ct e8 HE8.out (fun i hi => by rw [Nat.zero_add]; exact hcell i (by rw [HE8.out]; exact hi)) 9 under_str
          have q2' : wr.cell? ⟨g, 1, none⟩ = some (.slice (some ⟨gh, 0, none⟩) 8 ch) := (hB.cell (p := ⟨g, 1, none⟩) hgl).trans q2
          have q4' : At wr gh H0 := q4.below hB q6
          clear hcell
          obtain ⟨T, HT⟩ : ∃ T, Hid (T = u ++ strOfNums e8) := ⟨_, rfl⟩
          have HTl : Hid (T.data.toList = padded l) := by
            show _ = _
            rw [HT.out, ByteArray.data_append, Array.toList_append, HU.out, toBytes_str, HE.out, HJ.out, padded, hll.out]
          have HTs : Hid (T.size = s.size + 1 + padN s.size + 8) := by
            show _ = _
            rw [HT.out, ByteArray.size_append, HZ.out, HJ.out, strOfNums_size, HE8.out]
          have hd8 : decide ((i : Int) < 8) = false := by simp; omega
          have hsz8 : (strOfNums e8).size = 8 := by rw [strOfNums_size, HE8.out]
          have hub : u.size ≤ 200000 := by have h1 := HZ.out; omega
          go_wp2_with (at_builtin; refine wpList_app rfl (.tmp 59) (.tmp 63) 42 3 .i64 8 rfl slI w.heap.size _ [] rfl (Own.nil _ _ _ _) gh ch H0 rfl q4' (by decide) hbs ?_; intro hv w2 hownh hgrow _)
          rw [← HT.out]
          rw [List.nil_append] at hownh
          obtain ⟨g9, c9, hv9, b9, l9, z9, f9⟩ := hownh.at (by decide)
          rw [show H0.length = 8 from rfl] at hv9
          subst hv9
          have hB2 := hB.grown hgrow hbs (fun k hk => by cases hk)
          have hC9 : Cells9 w2 g9 H0 := ⟨z9, f9, l9⟩
          clear f9 l9
          clear hgrow hownh hown hB hconv q2' q4' hub hsz8 z9 HZ HU HJ HT ht1 hgt2
          obtain ⟨tl, HTL⟩ : ∃ tl, Hid (tl = padded l) := ⟨_, rfl⟩
          rw [← HTL.out] at HTl
          have hT64 : Hid (T.size % 64 = 0) := by show _ = _; rw [HTs.out]; unfold padN; omega
          have hTb : T.size < 200000 := by have h1 := HTs.out; omega
          have HTlen : Hid (tl.length = T.size) := by show _ = _; rw [← HTl.out, Array.length_toList]; rfl
          obtain ⟨f, HF⟩ : ∃ f : Nat → List Int, Hid (f = foldB K0 H0 tl) := ⟨_, rfl⟩
          have hfw : ∀ m, W8 (f m) := by rw [HF.out]; exact fun m => foldB_w8 W8_H0 tl m
          have HF0 : Hid (f 0 = H0) := by show _ = _; rw [HF.out]; rfl
          have HFS : Hid (∀ m, f (m + 1) = blockOn K0 (f m) (blk 64 (tl.drop (64 * m)))) := by rw [HF.out]; exact fun m => rfl
          have hC9lt := hC9.lt
          go_loopw [10] (fun c wr => ∃ m : Nat, 64 * m ≤ T.size ∧ c = .int .i64 (64 * (m : Int)) ∧ Cells9 wr g9 (f m) ∧ Below w.heap.size w wr) (fun c _ => T.size - (intOf c).toNat)
          case atStart => exact ⟨0, by omega, rfl, by rw [HF0.out]; exact hC9, hB2⟩
          case round =>
            clear hC9 hB2 hC9lt
            obtain ⟨m, hm, rfl, hC, hB⟩ := hrel
            by_cases hlt3 : 64 * m < T.size
            · have hm64 : 64 * m + 64 ≤ T.size := by have := hT64.out; omega
              have HFm : Hid _ := HFS.out m
              refine sum_turn T m g gk ck g9 c9 w wr (f m) tl q1 hgl q3 q5 b9 hm64 hTb HTl (hfw m) hC hB _ _ _ _ _ _ _ _ _ _ _ _ _ _ _ _ _ _ _ _ _ _ _ _ _ _ _ _ _ _ _ _ _ _ _ _ _ _ _ _ _ _ _ _ _ _ _ _ _ _ _ _ _ _ _ _ _ _ _ _ _ _ _ _ _ _ _ _ _ _ _ _ _ _ _ _ _ _ _ _ _ _ _ _ _ _ _ _ _ _ _ _ _ _ _ _ _ _ _ _ _ _ _ _ _ _ _ _ _ _ _ _ _ _ _ _ _ _ _ _ _ _ _ _ _ _ _ _ _ _ _ _ _ _ _ _ _ _ _ _ _ _ _ _ _ _ _ _ _ _ _ _ _ _ _ _ _ _ _ _ _ _ _ _ _ _ _ _ _ _ _ _ _ _ _ _ _ _ _ _ _ _ _ _ _ _ _ _ _ _ _ _ _ _ _ _ _ _ _ _ _ _ _ _ _ _ _ _ _ _ _ _ _ _ _ _ _ _ _ _ _ _ _ _ _ _ _ _ _ _ _ _ _ _ _ _ _ _ _ _ _ _ _ _ _ _ _ _ _ _ _ _ _ _ _ _ _ _ _ _ _ _ _ _ _ _ _ _ _ _ _ _ _ _ _ _ _ _ _ _ _ _ _ _ _ _ _ _ _ _ _ _ _ _ _ _ _ _ _ _ _ _ _ _ _ _ _ _ _ _ _ _ _ _ ?_
              intro v10 w' h10 hC' hB'
              intros
              subst h10
              rw [← HFm.out] at hC'
              go_wp2
              refine ⟨⟨m + 1, by omega, rfl, hC', hB'⟩, by simp [intOf]; omega⟩
            · have hmm : 64 * m = T.size := by have := hT64.out; omega
              have hdm : decide (64 * (m : Int) < T.size) = false := by simp; omega
              have HFE : Hid (f m = foldB K0 H0 (padded l) ((padded l).length / 64)) := by
                show _ = _
                rw [HF.out, ← HTL.out, HTlen.out, ← hmm, Nat.mul_div_cancel_left _ (by omega)]
              obtain ⟨fm, HFM⟩ : ∃ fm, Hid (fm = f m) := ⟨_, rfl⟩
              rw [← HFM.out] at hC
              have hfm : W8 fm := by rw [HFM.out]; exact hfw m
              clear hmm
              go_wp2
              refine sum_outs g9 c9 w wr fm hfm hC hB _ _ _ _ _ _ _ _ _ _ _ _ _ _ _ _ _ _ _ _ _ _ _ _ _ _ _ _ _ _ _ _ _ _ _ _ _ _ _ _ _ _ _ _ _ _ _ _ _ _ _ _ _ _ _ _ _ _ _ _ _ _ _ _ _ _ _ _ _ _ _ _ _ _ _ _ _ _ _ _ _ _ _ _ _ _ _ _ _ _ _ _ _ _ _ _ _ _ _ _ _ _ _ _ _ _ _ _ _ _ _ _ _ _ _ _ _ _ _ _ _ _ _ _ _ _ _ _ _ _ _ _ _ _ _ _ _ _ _ _ _ _ _ _ _ _ _ _ _ _ _ _ _ _ _ _ _ _ _ _ _ _ _ _ _ _ _ _ _ _ _ _ _ _ _ _ _ _ _ _ _ _ _ _ _ _ _ _ _ _ _ _ _ _ _ _ _ _ _ _ _ _ _ _ _ _ _ _ _ _ _ _ _ _ _ _ _ _ _ _ _ _ _ _ _ _ _ _ _ _ _ _ _ _ _ _ _ _ _ _ _ _ _ _ _ _ _ _ _ _ _ _ _ _ _ _ _ _ _ _ _ _ _ _ _ _ _ _ _ _ _ _ _ _ _ _ _ _ _ _ _ _ _ _ _ _ _ _ _ _ _ _ _ _ _ _ _ _ _ _ _ _ _ _ _ _ _ _ _ _ _ _ _ _ _ ?_
              clear hC hB
              intro v28 v29 w8 hO hB
              intros
              have hl32 : (fm.flatMap four).length = 32 := by rw [flat_length, hfm.len]
              obtain ⟨ol, HOl⟩ : ∃ ol, Hid (ol = fm.flatMap four) := ⟨_, rfl⟩
              rw [← HOl.out] at hO hl32
              obtain ⟨go, co, hv, -, -, hcell, -⟩ := hO.at (by omega)
              rw [hl32] at hv
              subst hv
              have hconv := run_convert_bytes_arg w8 49 5 under_bytes under_u8 go 0 32 co ol hl32 (fun i hi => by rw [Nat.zero_add]; exact hcell i (by rw [hl32]; exact hi)) 9 under_str
              clear hcell hl32
              go_wp2
              go_ret
              refine ⟨?_, hB⟩
              have hfin : foldB K0 H0 (padded s.data.toList) ((padded s.data.toList).length / 64) = fm := by rw [HFM.out, HFE.out, HL.out]
              rw [show sumSpecRef s.data.toList = ol by unfold sumSpecRef; rw [hfin, HOl.out]]
              rfl
    · have hz := HZ.out
      have hjp : j < padN s.size := by unfold padN at *; omega
      have ht1 : ((u.size : Int) % 64 != 56) = true := by rw [bne_iff_ne]; omega
      clear hlt
      have hub : u.size ≤ 200000 := by omega
      clear hz
      go_wp2
      refine ⟨⟨j + 1, u ++ ⟨#[0]⟩, by omega, rfl, ?_, ?_⟩, ?_⟩
      · show _ = _
        rw [List.replicate_succ', ByteArray.data_append, Array.toList_append, HU.out]; simp
      · show _ = _
        rw [ByteArray.size_append, HZ.out]; rfl
      · have h2 : (u ++ ⟨#[0]⟩ : ByteArray).size = u.size + 1 := by rw [ByteArray.size_append]; rfl
        have h1 := HZ.out
        simp only [h2]
        omega
end Go.Proofs.YtaokemapkgggoaaGreatDoor
