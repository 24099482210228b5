/-
  The lowest bits of a number.
-/
import Derived.Test.YtkjglnjneblomaaBase
import Derived.Laws.BitsLemmas
namespace Go.Proofs.Ytkjglnjneblomaa
open Go.RowKit

theorem mask_one (n : Int) (h0 : 0 ≤ n) (h1 : n < 9223372036854775808) : bits .and .i64 n 1 = n % 2 := bits_mask .i64 63 (by decide) (fun m m0 m1 => wrap_in m (by omega) (by omega)) 1 (by decide) n h0 h1
theorem mask_two (n : Int) (h0 : 0 ≤ n) (h1 : n < 9223372036854775808) : bits .and .i64 n 3 = n % 4 := bits_mask .i64 63 (by decide) (fun m m0 m1 => wrap_in m (by omega) (by omega)) 2 (by decide) n h0 h1
end Go.Proofs.Ytkjglnjneblomaa
