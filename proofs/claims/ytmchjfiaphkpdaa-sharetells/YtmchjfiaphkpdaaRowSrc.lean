/-
  A slice that came in, as a source of an append.
-/
import Derived.Test.YtmchjfiaphkpdaaMem
namespace Go.Proofs.Ytmchjfiaphkpdaa
open Go.RowKit

/-- The beginning of a slice that came in, as a source of an append. -/
theorem Row.src {w : World} {a : Option Addr} {len cap : Nat} {zs : List Int} (h : Row .i64 w a len cap zs) (k : Nat) (hk : k ≤ len) : Src w (.slice a k cap) k ((zs.take k).map (Value.int .i64)) := by
  rcases h with ⟨rfl, rfl, rfl, rfl⟩ | ⟨x, rfl, hl, hm, hz, hc, _⟩
  · obtain rfl : k = 0 := by omega
    exact ⟨none, 0, rfl, fun _ => ⟨rfl, rfl⟩, fun a ha => by simp at ha⟩
  · refine ⟨some x, cap, rfl, fun e => by simp at e, fun a ha j u hj => ?_⟩
    simp only [Option.some.injEq] at ha
    subst ha
    rw [List.getElem?_map, List.getElem?_take] at hj
    split at hj
    · rename_i hjk
      have hj' : j < zs.length := by omega
      rw [List.getElem?_eq_getElem hj'] at hj
      simp only [Option.map_some, Option.some.injEq] at hj
      subst hj
      have := hc j hj'
      rw [this]
      simp [hj']
    · simp at hj

theorem Src.below {w w' : World} {x : Value} {m : Nat} {news : List Value} (h : Src w x m news) (hb : Below w.heap.size w w') : Src w' x m news := by
  obtain ⟨ad, c, rfl, h1, h2⟩ := h
  refine ⟨ad, c, rfl, h1, fun a ha j u hj => ?_⟩
  have := h2 a ha j u hj
  rw [hb.cell (p := a.add j) (cell_block this)]
  exact this

end Go.Proofs.Ytmchjfiaphkpdaa
