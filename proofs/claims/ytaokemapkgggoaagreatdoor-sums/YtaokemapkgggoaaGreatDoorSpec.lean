import Derived.Laws.BitsAllLaws
/-
  The plain mathematics of the sum, the seal and the code: words are whole numbers from 0 to 2^32 - 1.
-/
namespace Go.Proofs.YtaokemapkgggoaaGreatDoor

def xr (a b : Int) : Int := ((a.toNat ^^^ b.toNat : Nat) : Int)
def an (a b : Int) : Int := ((a.toNat &&& b.toNat : Nat) : Int)
def rr (n : Nat) (x : Int) : Int := x / 2 ^ n + x % 2 ^ n * (4294967296 / 2 ^ n)

/-- a word -/
def isW (x : Int) : Prop := 0 ≤ x ∧ x < 4294967296

theorem xr_w {a b : Int} (ha : isW a) (hb : isW b) : isW (xr a b) := by
  unfold isW xr at *
  have h := @Nat.xor_lt_two_pow a.toNat b.toNat 32 (by omega) (by omega)
  omega
theorem an_w {a b : Int} (hb : isW b) : isW (an a b) := by
  unfold isW an at *
  have h : a.toNat &&& b.toNat ≤ b.toNat := Nat.and_le_right
  omega

theorem rr_w (n : Nat) (hn : n ≤ 32) {x : Int} (hx : isW x) : isW (rr n x) := by
  unfold isW rr at *
  have hp : (2 : Int) ^ n * 2 ^ (32 - n) = 4294967296 := by
    rw [← Int.pow_add, show n + (32 - n) = 32 by omega]; rfl
  have hpos : (0 : Int) < 2 ^ n := Int.pow_pos (by omega)
  have hpos2 : (0 : Int) < 2 ^ (32 - n) := Int.pow_pos (by omega)
  have hq : (4294967296 : Int) / 2 ^ n = 2 ^ (32 - n) := by
    rw [← hp]; exact Int.mul_ediv_cancel_left _ (by omega)
  rw [hq]
  generalize (2 : Int) ^ n = p at *
  generalize (2 : Int) ^ (32 - n) = q at *
  have h1 : 0 ≤ x / p := Int.ediv_nonneg hx.1 (by omega)
  have h2 : x / p < q := Int.ediv_lt_of_lt_mul hpos (by rw [Int.mul_comm, hp]; exact hx.2)
  have h3 : 0 ≤ x % p := Int.emod_nonneg _ (by omega)
  have h4 : x % p < p := Int.emod_lt_of_pos _ hpos
  have h5 : x % p * q ≤ (p - 1) * q := Int.mul_le_mul_of_nonneg_right (by omega) (by omega)
  have h6 : (p - 1) * q = 4294967296 - q := by rw [Int.sub_mul, hp]; omega
  have h7 : 0 ≤ x % p * q := Int.mul_nonneg h3 (by omega)
  omega

theorem shr_w (n : Nat) {x : Int} (hx : isW x) : isW (x / 2 ^ n) := by
  unfold isW at *
  have hpos : (0 : Int) < 2 ^ n := Int.pow_pos (by omega)
  have h1 : 0 ≤ x / 2 ^ n := Int.ediv_nonneg hx.1 (by omega)
  have h2 : x / 2 ^ n ≤ x := Int.ediv_le_self _ hx.1
  omega

def s0 (x : Int) : Int := xr (xr (rr 7 x) (rr 18 x)) (x / 2 ^ 3)
def s1 (x : Int) : Int := xr (xr (rr 17 x) (rr 19 x)) (x / 2 ^ 10)
def bigE (e : Int) : Int := xr (xr (rr 6 e) (rr 11 e)) (rr 25 e)
def bigA (a : Int) : Int := xr (xr (rr 2 a) (rr 13 a)) (rr 22 a)
def choose (e f g : Int) : Int := xr (an e f) (an (4294967295 - e) g)
def most (a b c : Int) : Int := xr (xr (an a b) (an a c)) (an b c)

theorem s0_w {x : Int} (h : isW x) : isW (s0 x) := xr_w (xr_w (rr_w _ (by omega) h) (rr_w _ (by omega) h)) (shr_w _ h)
theorem s1_w {x : Int} (h : isW x) : isW (s1 x) := xr_w (xr_w (rr_w _ (by omega) h) (rr_w _ (by omega) h)) (shr_w _ h)
theorem bigE_w {x : Int} (h : isW x) : isW (bigE x) := xr_w (xr_w (rr_w _ (by omega) h) (rr_w _ (by omega) h)) (rr_w _ (by omega) h)
theorem bigA_w {x : Int} (h : isW x) : isW (bigA x) := xr_w (xr_w (rr_w _ (by omega) h) (rr_w _ (by omega) h)) (rr_w _ (by omega) h)
theorem choose_w {e f g : Int} (hf : isW f) (hg : isW g) : isW (choose e f g) := xr_w (an_w hf) (an_w hg)
theorem most_w {a b c : Int} (hb : isW b) (hc : isW c) : isW (most a b c) := xr_w (xr_w (an_w hb) (an_w hc)) (an_w hc)

theorem mod_w (x : Int) : isW (x % 4294967296) := by unfold isW; omega

/-- the next word of the row W -/
def nextW (x16 x15 x7 x2 : Int) : Int := (s1 x2 + x7 + s0 x15 + x16) % 4294967296
/-- four bytes, the highest first -/
def word4 (a b c d : Int) : Int := ((a * 256 + b) * 256 + c) * 256 + d
theorem word4_w {a b c d : Int} (ha : 0 ≤ a ∧ a < 256) (hb : 0 ≤ b ∧ b < 256) (hc : 0 ≤ c ∧ c < 256) (hd : 0 ≤ d ∧ d < 256) : isW (word4 a b c d) := by
  unfold isW word4; omega

/-- W, its first t words, of 64 bytes -/
def rowW (b : List Int) : Nat → List Int
  | 0 => []
  | t + 1 => rowW b t ++ [if t < 16 then word4 (b.getD (4 * t) 0) (b.getD (4 * t + 1) 0) (b.getD (4 * t + 2) 0) (b.getD (4 * t + 3) 0)
      else nextW ((rowW b t).getD (t - 16) 0) ((rowW b t).getD (t - 15) 0) ((rowW b t).getD (t - 7) 0) ((rowW b t).getD (t - 2) 0)]
theorem rowW_length (b : List Int) (t : Nat) : (rowW b t).length = t := by
  induction t with
  | zero => rfl
  | succ t ih => simp [rowW, ih]

/-- one round -/
def turn1 (k w : Int) : List Int → List Int
  | [a, b, c, d, e, f, g, h] =>
    [(h + bigE e + choose e f g + k + w + bigA a + most a b c) % 4294967296, a, b, c, (d + (h + bigE e + choose e f g + k + w)) % 4294967296, e, f, g]
  | l => l
def rounds (K W v : List Int) : Nat → List Int
  | 0 => v
  | t + 1 => turn1 (K.getD t 0) (W.getD t 0) (rounds K W v t)
/-- one block -/
def blockOn (K h b : List Int) : List Int := List.zipWith (fun x y => (x + y) % 4294967296) h (rounds K (rowW b 64) h 64)

end Go.Proofs.YtaokemapkgggoaaGreatDoor
