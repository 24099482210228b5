/-
  The walks of math/bits: Mul64, Len64, LeadingZeros64.
-/
import Derived.Test.YtmchjfiaphkpdaaBase
import Derived.Test.YtmchjfiaphkpdaaNum
import Derived.WalkKit
import Derived.WalkSpells
import Derived.WalkLawsBesides
import Derived.Deep.Light
namespace Go.Proofs.Ytmchjfiaphkpdaa
open Go.RowKit

theorem mask32 (a : Nat) (ha : a < 18446744073709551616) : bits .and .u64 (a : Int) 4294967295 = ((a % 4294967296 : Nat) : Int) := by
  have h := bits_and_u64_nat a 4294967295 ha (by omega)
  have e : a &&& 4294967295 = a % 4294967296 := Nat.and_two_pow_sub_one_eq_mod a 32
  rw [e] at h
  exact h
theorem cast_half (a : Nat) : (a : Int) / 4294967296 = ((a / 4294967296 : Nat) : Int) := by omega
theorem cast_mul (a b : Nat) : (a : Int) * (b : Int) = ((a * b : Nat) : Int) := (Int.natCast_mul a b).symm
theorem cast_add (a b : Nat) : (a : Int) + (b : Int) = ((a + b : Nat) : Int) := (Int.natCast_add a b).symm
theorem fits64 (a : Nat) (ha : a < 18446744073709551616) : IntKind.u64.wrap (a : Int) = (a : Int) := by rw [IntKind.wrap_u64]; omega
theorem round64 (a : Nat) : IntKind.u64.wrap (a : Int) = ((a % 18446744073709551616 : Nat) : Int) := by rw [IntKind.wrap_u64]; omega

set_option maxHeartbeats 1000000 in
/-- Mul64: the product's upper and lower word. -/
theorem mul64_any (x y : Nat) (hx : x < 18446744073709551616) (hy : y < 18446744073709551616) (w : World) :
    Calls Try.prog 28 #[.int .u64 x, .int .u64 y] w fun e w' => e = .returned (.tuple #[.int .u64 ((x * y / 18446744073709551616 : Nat) : Int), .int .u64 ((x * y % 18446744073709551616 : Nat) : Int)]) ∧ w' = w := by
  obtain ⟨b0, b1, b2, hhi⟩ := Lib.mul64_hi x y hx hy
  have p11 := Lib.half_mul_le (a := x / 4294967296) (b := y / 4294967296) (by omega) (by omega)
  have p10 := Lib.half_mul_le (a := x / 4294967296) (b := y % 4294967296) (by omega) (by omega)
  have p01 := Lib.half_mul_le (a := x % 4294967296) (b := y / 4294967296) (by omega) (by omega)
  have q11 : x / 4294967296 * (y / 4294967296) < 18446744073709551616 := by omega
  have q10 : x / 4294967296 * (y % 4294967296) < 18446744073709551616 := by omega
  have q01 : x % 4294967296 * (y / 4294967296) < 18446744073709551616 := by omega
  have s1 : x / 4294967296 * (y / 4294967296) + (x / 4294967296 * (y % 4294967296) + x % 4294967296 * (y % 4294967296) / 4294967296) / 4294967296 < 18446744073709551616 := by omega
  have s2 : x / 4294967296 * (y / 4294967296) + (x / 4294967296 * (y % 4294967296) + x % 4294967296 * (y % 4294967296) / 4294967296) / 4294967296 + ((x / 4294967296 * (y % 4294967296) + x % 4294967296 * (y % 4294967296) / 4294967296) % 4294967296 + x % 4294967296 * (y / 4294967296)) / 4294967296 < 18446744073709551616 := by omega
  go_enter Try.func28, Try.ntmps28
  go_wp2
  simp only [mask32 x hx, mask32 y hy, cast_half, cast_mul, cast_add, fits64 _ b0, fits64 _ q10, fits64 _ b1, mask32 _ b1, fits64 _ q01, fits64 _ b2, fits64 _ q11, fits64 _ s1, fits64 _ s2, round64 (x * y)]
  rw [hhi]
  go_ret2
  exact ⟨rfl, rfl⟩


/-- The table of lengths of a byte, as the text has it, under the library's name. -/
theorem fold_lens : (⟨(([0, 1, 2, 2, 3, 3, 3, 3, 4, 4, 4, 4, 4, 4, 4, 4, 5, 5, 5, 5, 5, 5, 5, 5, 5, 5, 5, 5, 5, 5, 5, 5, 6, 6, 6, 6, 6, 6, 6, 6, 6, 6, 6, 6, 6, 6, 6, 6, 6, 6, 6, 6, 6, 6, 6, 6, 6, 6, 6, 6, 6, 6, 6, 6].append [7, 7, 7, 7, 7, 7, 7, 7, 7, 7, 7, 7, 7, 7, 7, 7, 7, 7, 7, 7, 7, 7, 7, 7, 7, 7, 7, 7, 7, 7, 7, 7, 7, 7, 7, 7, 7, 7, 7, 7, 7, 7, 7, 7, 7, 7, 7, 7, 7, 7, 7, 7, 7, 7, 7, 7, 7, 7, 7, 7, 7, 7, 7, 7]).append ([8, 8, 8, 8, 8, 8, 8, 8, 8, 8, 8, 8, 8, 8, 8, 8, 8, 8, 8, 8, 8, 8, 8, 8, 8, 8, 8, 8, 8, 8, 8, 8, 8, 8, 8, 8, 8, 8, 8, 8, 8, 8, 8, 8, 8, 8, 8, 8, 8, 8, 8, 8, 8, 8, 8, 8, 8, 8, 8, 8, 8, 8, 8, 8].append [8, 8, 8, 8, 8, 8, 8, 8, 8, 8, 8, 8, 8, 8, 8, 8, 8, 8, 8, 8, 8, 8, 8, 8, 8, 8, 8, 8, 8, 8, 8, 8, 8, 8, 8, 8, 8, 8, 8, 8, 8, 8, 8, 8, 8, 8, 8, 8, 8, 8, 8, 8, 8, 8, 8, 8, 8, 8, 8, 8, 8, 8, 8, 8])).toArray⟩ : ByteArray) = Lib.len8tab := by kernel_rfl

theorem len_byte (y : Int) (h : 0 ≤ y ∧ y < 256) (hp : y.toNat < Lib.len8tab.size) : ((Lib.len8tab[y.toNat]'hp).toNat : Int) = Lib.bitLen y.toNat := by
  have e := Lib.len8_of y h.1 (by omega)
  unfold Lib.len8 at e
  rw [getElem?_pos Lib.len8tab y.toNat hp] at e
  exact e

theorem len_part (x y k : Int) (hk : 0 ≤ k ∧ k ≤ 56) (h : 0 ≤ y ∧ y < 256) (hp : y.toNat < Lib.len8tab.size) (hb : (Lib.bitLen x.toNat : Int) = k + (Lib.bitLen y.toNat : Int)) :
    wrap64 (k + wrap64 ((Lib.len8tab[y.toNat]'hp).toNat : Int)) = (Lib.bitLen x.toNat : Int) := by
  have l := Lib.bitLen_le8' y h.1 (by omega)
  rw [len_byte y h hp, hb]
  unfold wrap64
  omega

theorem len_last (x : Int) (h : 0 ≤ x ∧ x < 256) (hp : x.toNat < Lib.len8tab.size) :
    wrap64 (wrap64 ((Lib.len8tab[x.toNat]'hp).toNat : Int)) = (Lib.bitLen x.toNat : Int) := by
  have l := Lib.bitLen_le8' x h.1 (by omega)
  rw [len_byte x h hp]
  unfold wrap64
  omega

set_option maxHeartbeats 4000000 in
set_option maxRecDepth 100000 in
theorem len64_any (x : Int) (h0 : 0 ≤ x) (h1 : x ≤ 18446744073709551615) (w : World) :
    Calls Try.prog 38 #[.int .u64 x] w fun e w' => e = .returned (.int .i64 (Lib.bitLen x.toNat)) ∧ w' = w := by
  go_enter Try.func38, Try.ntmps38
  rw [fold_lens]
  have hsz := Lib.len8tab_size
  go_wp2
  all_goals (go_ret; refine ⟨congrArg Ending.returned (congrArg (Value.int IntKind.i64) ?_), rfl⟩)
  all_goals go_light
  all_goals first
    | exact len_part x (x / 4294967296 / 65536 / 256) 56 (by omega) (by omega) _ (by rw [Lib.bitLen_shift56 x.toNat (by omega) (by omega), show (x / 4294967296 / 65536 / 256).toNat = x.toNat / 72057594037927936 from by omega]; omega)
    | exact len_part x (x / 4294967296 / 65536) 48 (by omega) (by omega) _ (by rw [Lib.bitLen_shift48 x.toNat (by omega) (by omega), show (x / 4294967296 / 65536).toNat = x.toNat / 281474976710656 from by omega]; omega)
    | exact len_part x (x / 4294967296 / 256) 40 (by omega) (by omega) _ (by rw [Lib.bitLen_shift40 x.toNat (by omega) (by omega), show (x / 4294967296 / 256).toNat = x.toNat / 1099511627776 from by omega]; omega)
    | exact len_part x (x / 4294967296) 32 (by omega) (by omega) _ (by rw [Lib.bitLen_shift32 x.toNat (by omega) (by omega), show (x / 4294967296).toNat = x.toNat / 4294967296 from by omega]; omega)
    | exact len_part x (x / 65536 / 256) 24 (by omega) (by omega) _ (by rw [Lib.bitLen_shift24 x.toNat (by omega) (by omega), show (x / 65536 / 256).toNat = x.toNat / 16777216 from by omega]; omega)
    | exact len_part x (x / 65536) 16 (by omega) (by omega) _ (by rw [Lib.bitLen_shift16 x.toNat (by omega) (by omega), show (x / 65536).toNat = x.toNat / 65536 from by omega]; omega)
    | exact len_part x (x / 256) 8 (by omega) (by omega) _ (by rw [Lib.bitLen_shift8 x.toNat (by omega) (by omega), show (x / 256).toNat = x.toNat / 256 from by omega]; omega)
    | exact len_last x (by omega) _

set_option maxHeartbeats 1000000 in
theorem lz64_any (x : Int) (h0 : 0 ≤ x) (h1 : x ≤ 18446744073709551615) (w : World) :
    Calls Try.prog 33 #[.int .u64 x] w fun e w' => e = .returned (.int .i64 (64 - Lib.bitLen x.toNat)) ∧ w' = w := by
  have hb : Lib.bitLen x.toNat ≤ 64 := Lib.bitLen_le _ 64 (by omega) (by omega)
  go_enter Try.func33, Try.ntmps33
  go_wp2_with (go_at_call 38; refine (len64_any x h0 h1 _).mono ?_; rintro e w' ⟨rfl, rfl⟩)
  go_ret
  exact ⟨rfl, rfl⟩
end Go.Proofs.Ytmchjfiaphkpdaa
