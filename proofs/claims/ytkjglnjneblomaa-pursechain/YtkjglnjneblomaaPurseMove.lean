/-
  Package purse: the walk of Move.
-/
import Derived.Test.YtkjglnjneblomaaPurse
namespace Go.Proofs.Ytkjglnjneblomaa
open Go.RowKit

/-- Two purses don't lie in one place. -/
def Apart (b o c p : Nat) : Prop := b ≠ c ∨ o + 1 < p ∨ p + 1 < o
theorem Apart.symm {b o c p : Nat} (h : Apart b o c p) : Apart c p b o := by unfold Apart at *; omega

/-- A pointer to a purse, or nil. -/
def ptrV : Option (Nat × Nat) → Value
  | none => .pointer none
  | some (b, o) => .pointer (some ⟨b, o, none⟩)

/-- The slice value v reads as these pointers, and lies in no purse of block f. -/
def ReadsP (w : World) (v : Value) (f : Nat) (ts : List (Option (Nat × Nat))) : Prop :=
  ∃ a cap, v = .slice a ts.length cap ∧ ts.length ≤ maxLen ∧ (ts = [] ∨ ∃ g off, a = some ⟨g, off, none⟩ ∧ g ≠ f ∧ ∀ k, k < ts.length → w.cell? ⟨g, off + k, none⟩ = some (ptrV (ts.getD k none)))

/-- It is nil, or a purse apart from f, o that may not take t. -/
def Refuses (w : World) (f p : Nat) (t : Int) (x : Option (Nat × Nat)) : Prop := x = none ∨ ∃ b o i q, x = some (b, o) ∧ Pur w b o i q ∧ 0 ≤ i ∧ i ≤ 1152921504606846976 ∧ mayPut i t = false ∧ Apart b o f p
/-- It is the purse at b, o, apart from f, p, that may take t. -/
def Accepts (w : World) (f p : Nat) (t : Int) (x : Option (Nat × Nat)) (b o : Nat) (i q : Int) : Prop := x = some (b, o) ∧ Pur w b o i q ∧ 0 ≤ i ∧ i ≤ 1152921504606846976 ∧ mayPut i t = true ∧ Apart b o f p

set_option maxRecDepth 100000 in
set_option maxHeartbeats 1000000 in
theorem move_any (b o : Nat) (i q n : Int) (v : Value) (ts : List (Option (Nat × Nat))) (j : Nat) (bt ot : Nat) (it qt : Int) (w : World) (hf : Fit i q) (h : Pur w b o i q) (hv : ReadsP w v b ts) (hj : j ≤ ts.length)
    (hR : ∀ k, k < j → Refuses w b o (goes i q n) (ts.getD k none)) (hA : j < ts.length → Accepts w b o (goes i q n) (ts.getD j none) bt ot it qt) :
    Calls Try.prog 15 #[.int .i64 n, .pointer (some ⟨b, o, none⟩), v] w fun e w' =>
      (j < ts.length → e = .returned (.int .i64 (goes i q n)) ∧ ∃ w1, Chg b o w w1 ∧ Pur w1 b o i (q + goes i q n) ∧ Chg bt ot w1 w' ∧ Pur w' bt ot (it + goes i q n) qt) ∧
      (j = ts.length → e = .returned (.int .i64 0) ∧ Chg b o w w' ∧ Pur w' b o i q) := by
  obtain ⟨a, cap, rfl, hm, hc⟩ := hv
  obtain ⟨g0, g1⟩ := goes_bd (n := n) hf
  obtain ⟨l, hl⟩ : ∃ l, ts.length = l := ⟨_, rfl⟩
  obtain ⟨t, ht⟩ : ∃ t, goes i q n = t := ⟨_, rfl⟩
  have HT : Hid (goes i q n = t) := ht
  have HF : Hid (Fit i q) := hf
  obtain ⟨q0, qi, i1⟩ := hf
  have hlt := h.lt
  have HP : Hid (Pur w b o i q) := h
  rw [ht] at hR hA g0 g1
  rw [ht, hl]
  rw [hl] at hj hA hm
  have HR : Hid (∀ k, k < j → Refuses w b o t (ts.getD k none)) := hR
  have HA : Hid (j < l → Accepts w b o t (ts.getD j none) bt ot it qt) := hA
  have HC : Hid (∀ k, k < l → ∃ g off, a = some ⟨g, off, none⟩ ∧ g ≠ b ∧ w.cell? ⟨g, off + k, none⟩ = some (ptrV (ts.getD k none))) := fun k hk => by
    rcases hc with rfl | ⟨g, off, rfl, hg, hc⟩
    · simp at hl; omega
    · exact ⟨g, off, rfl, hg, hc k (by omega)⟩
  clear hR hA hc hl ht h
  unfold maxLen at hm
  go_enter Try.func15, Try.ntmps15
  go_upto_region 4 with (go_at_call 9; refine (take_any b o i q n _ HF.out HP.out).mono ?_; rintro e w1 ⟨rfl, c1, p1⟩; rw [HT.out])
  rw [HT.out] at p1
  go_wp2
  go_loopw [17] (fun x wr => ∃ k : Nat, k ≤ j ∧ x = .int .i64 k ∧ Chg b o w wr ∧ Pur wr b o i (q + t)) (fun x _ => l - (intOf x).toNat)
  case atStart => exact ⟨0, Nat.zero_le _, rfl, c1, p1⟩
  case round =>
    obtain ⟨k, hk, rfl, c2, p2⟩ := hrel
    clear c1 p1
    by_cases hkl : k < l
    · obtain ⟨g, off, rfl, hg, hcell⟩ := HC.out k hkl
      have hcx : wr.cell? ⟨g, off + k, none⟩ = some (ptrV (ts.getD k none)) := by
        rw [World.cell?_of_block (w := w) (a := ⟨g, off + k, none⟩) (c2.block g (World.block_lt_of_cell? w ⟨g, off + k, none⟩ hcell) hg)]
        exact hcell
      have C2 : Hid (Chg b o w wr ∧ Pur wr b o i (q + t)) := ⟨c2, p2⟩
      clear hcell c2 p2
      by_cases hkj : k < j
      · rcases HR.out k hkj with hx | ⟨b', o', i', q', hx, px, x0, x1, xm, xa⟩
        · rw [hx] at hcx
          simp only [ptrV] at hcx
          clear hx
          go_wp2
          go_roundw
          case rel => exact ⟨k + 1, by omega, by go_num, C2.out⟩
          case measure => simp [intOf]; omega
        · rw [hx] at hcx
          simp only [ptrV] at hcx
          have PX : Hid (Pur wr b' o' i' q' ∧ mayPut i' t = false) := ⟨px.chg C2.out.1 xa, xm⟩
          clear hx px xm xa
          go_wp2_with (go_at_call 13; refine (put_no b' o' i' q' t _ x0 x1 PX.out.1 PX.out.2).mono ?_; rintro e wy ⟨rfl, by'⟩)
          go_roundw
          case rel => exact ⟨k + 1, by omega, by go_num, C2.out.1.then hlt by', C2.out.2.then by'⟩
          case measure => simp [intOf]; omega
      · obtain rfl : k = j := by omega
        obtain ⟨hx, px, x0, x1, xm, xa⟩ := HA.out hkl
        rw [hx] at hcx
        simp only [ptrV] at hcx
        have PX : Hid (Pur wr bt ot it qt ∧ mayPut it t = true) := ⟨px.chg C2.out.1 xa, xm⟩
        clear hx px xm xa
        go_wp2_with (go_at_call 13; refine (put_yes bt ot it qt t _ x0 x1 PX.out.1 PX.out.2).mono ?_; rintro e wy ⟨rfl, cy, py⟩)
        go_ret
        exact ⟨fun _ => ⟨rfl, wr, C2.out.1, C2.out.2, cy, py⟩, fun e => by omega⟩
    · obtain rfl : k = l := by omega
      obtain rfl : k = j := by omega
      have C2 : Hid (Chg b o w wr ∧ Pur wr b o i (q + t)) := ⟨c2, p2⟩
      obtain ⟨d0, d1, k0, k1⟩ := p2
      clear c2
      go_wp2
      go_ret
      exact ⟨rfl, C2.out.1.trans (Chg.set1 _ _), C2.out.2.set1 q⟩

/-- The first of to may take it, or, where the first may not, the second. -/
theorem move_hit (b o : Nat) (i q n : Int) (v : Value) (ts : List (Option (Nat × Nat))) (j : Nat) (bt ot : Nat) (it qt : Int) (w : World) (hf : Fit i q) (h : Pur w b o i q) (hv : ReadsP w v b ts) (hj : j < ts.length)
    (hR : ∀ k, k < j → Refuses w b o (goes i q n) (ts.getD k none)) (hA : Accepts w b o (goes i q n) (ts.getD j none) bt ot it qt) :
    Calls Try.prog 15 #[.int .i64 n, .pointer (some ⟨b, o, none⟩), v] w fun e w' =>
      e = .returned (.int .i64 (goes i q n)) ∧ ∃ w1, Chg b o w w1 ∧ Pur w1 b o i (q + goes i q n) ∧ Chg bt ot w1 w' ∧ Pur w' bt ot (it + goes i q n) qt :=
  (move_any b o i q n v ts j bt ot it qt w hf h hv (Nat.le_of_lt hj) hR (fun _ => hA)).mono fun _ _ k => k.1 hj

/-- None may take it. -/
theorem move_miss (b o : Nat) (i q n : Int) (v : Value) (ts : List (Option (Nat × Nat))) (w : World) (hf : Fit i q) (h : Pur w b o i q) (hv : ReadsP w v b ts)
    (hR : ∀ k, k < ts.length → Refuses w b o (goes i q n) (ts.getD k none)) :
    Calls Try.prog 15 #[.int .i64 n, .pointer (some ⟨b, o, none⟩), v] w fun e w' =>
      e = .returned (.int .i64 0) ∧ Chg b o w w' ∧ Pur w' b o i q :=
  (move_any b o i q n v ts ts.length 0 0 0 0 w hf h hv (Nat.le_refl _) hR (fun h => absurd h (Nat.lt_irrefl _))).mono fun _ _ k => k.2 rfl

theorem readsP_none (w : World) (f cap : Nat) (a : Option Addr) : ReadsP w (.slice a 0 cap) f [] := ⟨a, cap, rfl, by simp [maxLen], Or.inl rfl⟩
theorem readsP_one {w : World} {f g cap : Nat} {x : Option (Nat × Nat)} (hg : g ≠ f) (h0 : w.cell? ⟨g, 0, none⟩ = some (ptrV x)) : ReadsP w (.slice (some ⟨g, 0, none⟩) 1 cap) f [x] :=
  ⟨_, cap, rfl, by simp [maxLen], Or.inr ⟨g, 0, rfl, hg, fun k hk => by
    match k, hk with
    | 0, _ => simpa using h0⟩⟩
theorem readsP_two {w : World} {f g cap : Nat} {x y : Option (Nat × Nat)} (hg : g ≠ f) (h0 : w.cell? ⟨g, 0, none⟩ = some (ptrV x)) (h1 : w.cell? ⟨g, 1, none⟩ = some (ptrV y)) : ReadsP w (.slice (some ⟨g, 0, none⟩) 2 cap) f [x, y] :=
  ⟨_, cap, rfl, by simp [maxLen], Or.inr ⟨g, 0, rfl, hg, fun k hk => by
    match k, hk with
    | 0, _ => simpa using h0
    | 1, _ => simpa using h1⟩⟩
end Go.Proofs.Ytkjglnjneblomaa
