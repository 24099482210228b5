/-
  Plain arithmetic, of no program: the digit step of the long division of two words by one (base 2^32), what wraps, and how many bits a number has.
-/
import Derived.Laws.Bits64b
import Derived.Lib.BitFns
import Derived.Lib.Mul64
namespace Go.Proofs.Ytmchjfiaphkpdaa

/-- One digit of a quotient, guessed: what the guess and its rest keep to while the guess is lowered. -/
structure Guess (u d y1 y0 q r : Int) : Prop where
  sum : q * y1 + r = u
  above : (u * 4294967296 + d) / (y1 * 4294967296 + y0) ≤ q
  most : q ≤ 4294967297
  rest : 0 ≤ r
  least : 0 ≤ q

theorem mul_split (q y1 y0 : Int) : q * (y1 * 4294967296 + y0) = q * y1 * 4294967296 + q * y0 := by
  rw [Int.mul_add, Int.mul_assoc]

theorem Guess.first {u d y1 y0 : Int} (hu0 : 0 ≤ u) (hd0 : 0 ≤ d) (hy1 : 2147483648 ≤ y1) (hy0 : 0 ≤ y0) (hy2 : y0 < 4294967296) (hu : u < y1 * 4294967296 + y0) (hd : d < 4294967296) :
    Guess u d y1 y0 (u / y1) (u % y1) := by
  refine ⟨by rw [Int.mul_comm]; exact Int.mul_ediv_add_emod u y1, ?_, ?_, Int.emod_nonneg _ (by omega), Int.ediv_nonneg hu0 (by omega)⟩
  · have h := Int.ediv_mul_le (u * 4294967296 + d) (b := y1 * 4294967296 + y0) (by omega)
    have h0 : 0 ≤ (u * 4294967296 + d) / (y1 * 4294967296 + y0) := Int.ediv_nonneg (by omega) (by omega)
    generalize (u * 4294967296 + d) / (y1 * 4294967296 + y0) = t at h h0 ⊢
    rw [mul_split] at h
    refine (Int.le_ediv_iff_mul_le (by omega)).2 ?_
    have : 0 ≤ t * y0 := Int.mul_nonneg h0 hy0
    generalize t * y1 = a at h ⊢
    generalize t * y0 = b at *
    omega
  · have : u / y1 < 4294967298 := by
      refine (Int.ediv_lt_iff_lt_mul (by omega)).2 ?_
      omega
    omega

theorem Guess.top {u d y1 y0 : Int} (hY : 0 < y1 * 4294967296 + y0) (hu : u < y1 * 4294967296 + y0) (hd : d < 4294967296) :
    (u * 4294967296 + d) / (y1 * 4294967296 + y0) ≤ 4294967295 := by
  have : (u * 4294967296 + d) / (y1 * 4294967296 + y0) < 4294967296 := by
    refine (Int.ediv_lt_iff_lt_mul hY).2 ?_
    omega
  omega

theorem Guess.next {u d y1 y0 q r : Int} (g : Guess u d y1 y0 q r) (hd0 : 0 ≤ d) (hy1 : 2147483648 ≤ y1) (hy0 : 0 ≤ y0) (hu : u < y1 * 4294967296 + y0) (hd : d < 4294967296)
    (h : 4294967296 ≤ q ∨ 4294967296 * r + d < q * y0) : 1 ≤ q ∧ Guess u d y1 y0 (q - 1) (r + y1) := by
  have hr := g.rest
  have hl := g.least
  have hp : 1 ≤ q := by
    rcases h with h | h
    · omega
    · rcases Int.lt_or_le q 1 with h' | h'
      · have : q = 0 := by omega
        subst this
        simp at h
        omega
      · exact h'
  refine ⟨hp, ?_, ?_, by have := g.most; omega, by omega, by omega⟩
  · have := g.sum
    rw [Int.sub_mul]
    omega
  · rcases h with h | h
    · have := Guess.top (d := d) (by omega) hu hd
      omega
    · have hs := g.sum
      have : (u * 4294967296 + d) / (y1 * 4294967296 + y0) < q := by
        refine (Int.ediv_lt_iff_lt_mul (by omega)).2 ?_
        rw [mul_split]
        generalize q * y1 = a at *
        generalize q * y0 = b at *
        omega
      omega

/-- The test says no: the guess is the digit. -/
theorem Guess.tested {u d y1 y0 q r : Int} (g : Guess u d y1 y0 q r) (hY : 0 < y1 * 4294967296 + y0) (h : q * y0 ≤ 4294967296 * r + d) :
    q = (u * 4294967296 + d) / (y1 * 4294967296 + y0) := by
  have hs := g.sum
  refine Int.le_antisymm ?_ g.above
  refine (Int.le_ediv_iff_mul_le hY).2 ?_
  rw [mul_split]
  generalize q * y1 = a at *
  generalize q * y0 = b at *
  omega

/-- The rest has passed a digit: the guess is the digit. -/
theorem Guess.broken {u d y1 y0 q r : Int} (g : Guess u d y1 y0 q r) (hd0 : 0 ≤ d) (hY : 0 < y1 * 4294967296 + y0) (hy0 : 0 ≤ y0) (hy2 : y0 < 4294967296) (hq : q ≤ 4294967296) (hr : 4294967296 ≤ r) :
    q = (u * 4294967296 + d) / (y1 * 4294967296 + y0) := by
  have hs := g.sum
  refine Int.le_antisymm ?_ g.above
  refine (Int.le_ediv_iff_mul_le hY).2 ?_
  rw [mul_split]
  have : q * y0 ≤ 4294967296 * y0 := Int.mul_le_mul_of_nonneg_right hq hy0
  generalize q * y1 = a at *
  generalize q * y0 = b at *
  omega

/-- The first rest, as the text reckons it. -/
theorem first_rest (u y1 : Int) (hu : 0 ≤ u) (hM : u < 18446744073709551616) (hy : 0 < y1) : IntKind.u64.wrap (u - IntKind.u64.wrap (u / y1 * y1)) = u % y1 := by
  have e := Int.mul_ediv_add_emod u y1
  have a := Int.emod_nonneg u (b := y1) (by omega)
  have b : 0 ≤ y1 * (u / y1) := Int.mul_nonneg (by omega) (Int.ediv_nonneg hu (by omega))
  rw [Int.mul_comm (u / y1)]
  generalize y1 * (u / y1) = p at *
  simp only [IntKind.wrap_u64]
  omega

/-- What is left of a digit's step, wrapped as the text reckons it. -/
theorem left_wrap (u d y : Int) (hy : 0 < y) (hM : y < 18446744073709551616) :
    IntKind.u64.wrap (IntKind.u64.wrap (IntKind.u64.wrap (u * 4294967296) + d) - IntKind.u64.wrap ((u * 4294967296 + d) / y * y)) = (u * 4294967296 + d) % y := by
  have e := Int.mul_ediv_add_emod (u * 4294967296 + d) y
  have a := Int.emod_nonneg (u * 4294967296 + d) (b := y) (by omega)
  have l := Int.emod_lt_of_pos (u * 4294967296 + d) hy
  rw [Int.mul_comm ((u * 4294967296 + d) / y)]
  generalize y * ((u * 4294967296 + d) / y) = p at *
  simp only [IntKind.wrap_u64]
  omega

theorem add_part (m y p n : Int) (hy : 0 < y) (h : n = m + y * p) : p + m / y = n / y ∧ m % y = n % y := by
  subst h
  rw [Int.add_mul_ediv_left _ _ (by omega), Int.add_mul_emod_self_left]
  exact ⟨Int.add_comm _ _, rfl⟩

/-- The two digits together: quotient and rest of the three-digit number. -/
theorem two_digits (u a b y : Int) (hy : 0 < y) :
    ((u * 4294967296 + a) / y) * 4294967296 + ((u * 4294967296 + a) % y * 4294967296 + b) / y = (u * 18446744073709551616 + (a * 4294967296 + b)) / y ∧
    ((u * 4294967296 + a) % y * 4294967296 + b) % y = (u * 18446744073709551616 + (a * 4294967296 + b)) % y := by
  have e := Int.mul_ediv_add_emod (u * 4294967296 + a) y
  refine add_part _ y _ _ hy ?_
  rw [← Int.mul_assoc]
  generalize y * ((u * 4294967296 + a) / y) = p at *
  omega

theorem bits_bounds : ∀ (f x : Nat), x < 2 ^ f → 0 < x → 1 ≤ Lib.bitLenAux f x ∧ 2 ^ (Lib.bitLenAux f x - 1) ≤ x ∧ x < 2 ^ Lib.bitLenAux f x
  | 0, x, hx, h => by simp at hx; omega
  | f + 1, x, hx, h => by
    simp only [Lib.bitLenAux]
    rw [if_neg (by omega)]
    rcases Nat.eq_zero_or_pos (x / 2) with h2 | h2
    · have : x = 1 := by omega
      subst this
      have z : Lib.bitLenAux f (1 / 2) = 0 := by cases f <;> simp [Lib.bitLenAux]
      rw [z]; decide
    · obtain ⟨a, b, c⟩ := bits_bounds f (x / 2) (by rw [Nat.pow_succ] at hx; omega) h2
      generalize Lib.bitLenAux f (x / 2) = n at *
      obtain ⟨m, rfl⟩ : ∃ m, n = m + 1 := ⟨n - 1, by omega⟩
      simp only [Nat.add_sub_cancel, Nat.add_sub_cancel_left, Nat.pow_succ] at *
      have e : 1 + (m + 1) - 1 = m + 1 := by omega
      rw [Nat.add_comm 1 (m + 1), Nat.pow_succ, Nat.pow_succ]
      omega

theorem len_bounds (x : Nat) (h : 0 < x) (hx : x < 18446744073709551616) : 1 ≤ Lib.bitLen x ∧ Lib.bitLen x ≤ 64 ∧ 2 ^ (Lib.bitLen x - 1) ≤ x ∧ x < 2 ^ Lib.bitLen x := by
  obtain ⟨a, b, c⟩ := bits_bounds 64 x hx h
  exact ⟨a, Lib.bitLen_le x 64 (by omega) hx, b, c⟩

/-- How far a number is shifted till its highest bit is that of a word. -/
theorem lz_bounds (x : Nat) (h : 0 < x) (hx : x < 18446744073709551616) : 9223372036854775808 ≤ x * 2 ^ (64 - Lib.bitLen x) ∧ x * 2 ^ (64 - Lib.bitLen x) < 18446744073709551616 := by
  obtain ⟨a, b, c, d⟩ := len_bounds x h hx
  generalize Lib.bitLen x = n at *
  have p : 0 < 2 ^ (64 - n) := Nat.two_pow_pos _
  have e1 : 2 ^ (n - 1) * 2 ^ (64 - n) = 9223372036854775808 := by rw [← Nat.pow_add, show n - 1 + (64 - n) = 63 from by omega]
  have e2 : 2 ^ n * 2 ^ (64 - n) = 18446744073709551616 := by rw [← Nat.pow_add, show n + (64 - n) = 64 from by omega]
  constructor
  · rw [← e1]; exact Nat.mul_le_mul_right _ c
  · rw [← e2]; exact Nat.mul_lt_mul_of_pos_right d p

/-- The shift, as a number S = 2^s, with the words' parts: what the shifted words are. -/
theorem shift_words (h l y s : Nat) (hh : h < y) (hs : s ≤ 63) (hl : l < 18446744073709551616) (hY : y * 2 ^ s < 18446744073709551616) :
    h * 2 ^ s < 18446744073709551616 ∧ l / 2 ^ (64 - s) < 2 ^ s ∧
    (h * 2 ^ s + l / 2 ^ (64 - s)) * 18446744073709551616 + l * 2 ^ s % 18446744073709551616 = (h * 18446744073709551616 + l) * 2 ^ s ∧
    h * 2 ^ s + l / 2 ^ (64 - s) < y * 2 ^ s := by
  have p : 0 < 2 ^ s := Nat.two_pow_pos _
  have e : 2 ^ (64 - s) * 2 ^ s = 18446744073709551616 := by rw [← Nat.pow_add, show 64 - s + s = 64 from by omega]
  have q : 0 < 2 ^ (64 - s) := Nat.two_pow_pos _
  have h1 : l / 2 ^ (64 - s) < 2 ^ s := by
    refine (Nat.div_lt_iff_lt_mul q).2 ?_
    rw [Nat.mul_comm, e]; exact hl
  have h2 : (h + 1) * 2 ^ s ≤ y * 2 ^ s := Nat.mul_le_mul_right _ hh
  rw [Nat.add_mul, Nat.one_mul] at h2
  have h3 : l * 2 ^ s / 18446744073709551616 = l / 2 ^ (64 - s) := by
    rw [← e, Nat.mul_div_mul_right _ _ p]
  have h4 := Nat.div_add_mod (l * 2 ^ s) 18446744073709551616
  rw [h3] at h4
  have h5 : (h * 18446744073709551616 + l) * 2 ^ s = h * 2 ^ s * 18446744073709551616 + l * 2 ^ s := by
    rw [Nat.add_mul, Nat.mul_right_comm]
  rw [h5]
  generalize l / 2 ^ (64 - s) = c at *
  generalize h * 2 ^ s = a at *
  generalize l * 2 ^ s = b at *
  generalize 2 ^ s = S at *
  generalize y * S = Y at *
  omega

theorem or_parts (a b s : Nat) (hb : b < 2 ^ s) : (a * 2 ^ s) ||| b = a * 2 ^ s + b := by
  rw [Nat.mul_comm, Nat.two_pow_add_eq_or_of_lt hb]

/-- A divisor shifted up, a number shifted up with it. -/
theorem shifted (n y s : Nat) : n * 2 ^ s / (y * 2 ^ s) = n / y ∧ n * 2 ^ s % (y * 2 ^ s) = n % y * 2 ^ s := by
  have h : 0 < 2 ^ s := Nat.pow_pos (by omega)
  exact ⟨Nat.mul_div_mul_right _ _ h, Nat.mul_mod_mul_right _ _ _⟩

theorem mask_low (a : Nat) (ha : a < 18446744073709551616) : bits .and .u64 (a : Int) 4294967295 = ((a % 4294967296 : Nat) : Int) := by
  have h := bits_and_u64_nat a 4294967295 ha (by omega)
  have e : a &&& 4294967295 = a % 4294967296 := Nat.and_two_pow_sub_one_eq_mod a 32
  rw [e] at h
  exact h

theorem cast_pow (s : Nat) : (2 : Int) ^ s = ((2 ^ s : Nat) : Int) := by simp

/-- The words of a division, shifted till the divisor's highest bit is a word's: under the names by which the walk goes on. -/
theorem words (h l y s : Int) (h0 : 0 ≤ h) (hy : h < y) (l0 : 0 ≤ l) (l1 : l ≤ 18446744073709551615) (y1 : y ≤ 18446744073709551615) (hs : (64 - (Lib.bitLen y.toNat : Int)) = s) :
    ∃ Y U L : Int, IntKind.u64.wrap (y * 2 ^ s.toNat) = Y ∧ bits .or .u64 (IntKind.u64.wrap (h * 2 ^ s.toNat)) (l / 2 ^ (64 - s).toNat) = U ∧ IntKind.u64.wrap (l * 2 ^ s.toNat) = L ∧
      9223372036854775808 ≤ Y ∧ Y < 18446744073709551616 ∧ 0 ≤ U ∧ U < Y ∧ 0 ≤ L ∧ L < 18446744073709551616 ∧
      bits .and .u64 Y 4294967295 = Y % 4294967296 ∧ bits .and .u64 L 4294967295 = L % 4294967296 ∧
      (U * 18446744073709551616 + L) / Y = (h * 18446744073709551616 + l) / y ∧ (U * 18446744073709551616 + L) % Y / 2 ^ s.toNat = (h * 18446744073709551616 + l) % y := by
  obtain ⟨h, rfl⟩ := Int.eq_ofNat_of_zero_le h0
  obtain ⟨l, rfl⟩ := Int.eq_ofNat_of_zero_le l0
  obtain ⟨y, rfl⟩ := Int.eq_ofNat_of_zero_le (a := y) (by omega)
  rw [Int.toNat_natCast] at hs
  obtain ⟨b1, b2, _, _⟩ := len_bounds y (by omega) (by omega)
  obtain ⟨c1, c2⟩ := lz_bounds y (by omega) (by omega)
  have e1 : s.toNat = 64 - Lib.bitLen y := by omega
  have e2 : (64 - s).toNat = 64 - (64 - Lib.bitLen y) := by omega
  have e3 : 64 - Lib.bitLen y ≤ 63 := by omega
  rw [e1, e2]
  clear hs e1 e2 b1 b2
  generalize 64 - Lib.bitLen y = n at *
  obtain ⟨d1, d2, d3, d4⟩ := shift_words h l y n (by omega) e3 (by omega) c2
  obtain ⟨f1, f2⟩ := shifted (h * 18446744073709551616 + l) y n
  have p : 0 < 2 ^ n := Nat.two_pow_pos _
  refine ⟨((y * 2 ^ n : Nat) : Int), ((h * 2 ^ n + l / 2 ^ (64 - n) : Nat) : Int), ((l * 2 ^ n % 18446744073709551616 : Nat) : Int), ?_, ?_, ?_, by omega, by omega, by omega, by omega, by omega, by omega, ?_, ?_, ?_, ?_⟩
  · rw [cast_pow, ← Int.natCast_mul, IntKind.wrap_u64]; omega
  · have g : l / 2 ^ (64 - n) < 18446744073709551616 := by omega
    rw [cast_pow, cast_pow, ← Int.natCast_mul, ← Int.natCast_ediv, IntKind.wrap_u64, Int.emod_eq_of_lt (by omega) (by omega), bits_or_u64_nat _ _ d1 g, or_parts _ _ _ d2]
  · rw [cast_pow, ← Int.natCast_mul, IntKind.wrap_u64]; omega
  · rw [mask_low _ c2]; omega
  · rw [mask_low _ (by omega)]; omega
  · rw [← d3] at f1
    generalize h * 2 ^ n + l / 2 ^ (64 - n) = U at *
    generalize l * 2 ^ n % 18446744073709551616 = L at *
    have := congrArg (Nat.cast : Nat → Int) f1
    simpa using this
  · rw [← d3] at f2
    generalize h * 2 ^ n + l / 2 ^ (64 - n) = U at *
    generalize l * 2 ^ n % 18446744073709551616 = L at *
    have f4 : (U * 18446744073709551616 + L) % (y * 2 ^ n) / 2 ^ n = (h * 18446744073709551616 + l) % y := by rw [f2]; exact Nat.mul_div_cancel _ p
    have := congrArg (Nat.cast : Nat → Int) f4
    rw [cast_pow]
    simpa using this

end Go.Proofs.Ytmchjfiaphkpdaa
