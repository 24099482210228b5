/-
  Package note: what Total tells: sums over the notes of a slice.
-/
import Derived.Test.YtpfoimjmnmlnkaaNoteRunsWalk
import Derived.Test.YtpfoimjmnmlnkaaLies
namespace Go.Proofs.Ytpfoimjmnmlnkaa
open Go.RowKit

/-- A note, as numbers. -/
structure NoteT where
  rk : Int
  og : Int
  rt : Int
  i : Int
  q : Int
  s : Int
  d : Int
def NoteT.f (x : NoteT) : List Value := [.int .i64 x.rk, .int .i64 x.og, .int .i64 x.rt, .int .i64 x.i, .int .i64 x.q, .int .i64 x.s, .int .i64 x.d]
def NoteT.bal (x : NoteT) : Int := Go.Proofs.Ytpfoimjmnmlnkaa.bal x.og x.i x.q x.d
theorem NoteT.len (x : NoteT) : x.f.length = 7 := rfl
theorem NoteT.one (x : NoteT) : ∀ u ∈ x.f, u.oneCell' = true := by
  intro u hu
  simp only [NoteT.f, List.mem_cons, List.not_mem_nil, or_false] at hu
  rcases hu with rfl | rfl | rfl | rfl | rfl | rfl | rfl <;> rfl

/-- The sum of what g tells of each. -/
def sumBy {α : Type} (g : α → Int) (xs : List α) : Int := (xs.map g).sum
theorem sumBy_nil {α : Type} (g : α → Int) : sumBy g [] = 0 := rfl
theorem sumBy_append {α : Type} (g : α → Int) (xs ys : List α) : sumBy g (xs ++ ys) = sumBy g xs + sumBy g ys := by simp [sumBy]
theorem sumBy_next {α : Type} (g : α → Int) (xs : List α) (k : Nat) (x : α) (h : xs[k]? = some x) : sumBy g (xs.take (k + 1)) = sumBy g (xs.take k) + g x := by
  obtain ⟨hk, rfl⟩ := List.getElem?_eq_some_iff.1 h
  rw [List.take_succ_eq_append_getElem hk, sumBy_append]
  simp [sumBy]
/-- Each sum on the way is an int. -/
def SumFits {α : Type} (g : α → Int) (xs : List α) : Prop := ∀ k, -9223372036854775808 ≤ sumBy g (xs.take k) ∧ sumBy g (xs.take k) ≤ 9223372036854775807
theorem sumBy_le {α : Type} (g : α → Int) (B : Int) : ∀ xs : List α, (∀ x ∈ xs, 0 ≤ g x ∧ g x ≤ B) → 0 ≤ sumBy g xs ∧ sumBy g xs ≤ xs.length * B
  | [], _ => by simp [sumBy]
  | x :: r, h => by
    have h1 := h x (by simp)
    have h2 := sumBy_le g B r (fun y hy => h y (by simp [hy]))
    have e : sumBy g (x :: r) = g x + sumBy g r := by simp [sumBy]
    rw [e, List.length_cons, Int.natCast_add, Int.add_mul]
    simp
    omega
theorem SumFits.of {α : Type} {g : α → Int} {xs : List α} (B : Int) (h : ∀ x ∈ xs, 0 ≤ g x ∧ g x ≤ B) (hB : xs.length * B ≤ 9223372036854775807) (b0 : 0 ≤ B) : SumFits g xs := by
  intro k
  have h1 := sumBy_le g B (xs.take k) (fun x hx => h x (List.mem_of_mem_take hx))
  have h2 : ((xs.take k).length : Int) * B ≤ xs.length * B := Int.mul_le_mul_of_nonneg_right (by rw [List.length_take]; omega) b0
  omega

set_option maxHeartbeats 2000000 in
theorem total_any (v : Value) (xs : List NoteT) (w : World) (h : Lies 7 NoteT.f w v xs) (hC : ∀ x ∈ xs, Calm x.og x.i x.q x.d) (hb : SumFits NoteT.bal xs) (hs : SumFits NoteT.s xs) (hd : SumFits NoteT.d xs) :
    Calls Try.prog 20 #[v] w fun e w' => e = .returned (.tuple #[.int .i64 (sumBy NoteT.bal xs), .int .i64 (sumBy NoteT.s xs), .int .i64 (sumBy NoteT.d xs)]) ∧ Below w.heap.size w w' := by
  have HL := h
  obtain ⟨a, cap, rfl, _, hcm, _, _⟩ := h
  obtain ⟨n, hn⟩ : ∃ n, xs.length = n := ⟨_, rfl⟩
  have hl := HL.len
  unfold maxLen at hl
  rw [hn] at HL hl ⊢
  have H1 : Hid (SumFits NoteT.bal xs ∧ SumFits NoteT.s xs ∧ SumFits NoteT.d xs) := ⟨hb, hs, hd⟩
  have H2 : Hid (Lies 7 NoteT.f w (.slice a n cap) xs) := HL
  have H3 : Hid (∀ x ∈ xs, Calm x.og x.i x.q x.d) := hC
  have H4 : Hid (xs.take n = xs) := by show _ = _; rw [← hn]; exact List.take_length
  have hn0 : n ≤ 9223372036854775807 := by omega
  clear HL hb hs hd hC hcm hl
  go_enter Try.func20, Try.ntmps20
  go_wp2
  go_loopw [2, 3, 4, 9] (fun b s d i wr => ∃ (k : Nat) (B S D : Int), k ≤ n ∧ i = .int .i64 k ∧ b = .int .i64 B ∧ s = .int .i64 S ∧ d = .int .i64 D ∧ sumBy NoteT.bal (xs.take k) = B ∧ sumBy NoteT.s (xs.take k) = S ∧ sumBy NoteT.d (xs.take k) = D ∧ Below w.heap.size w wr) (fun _ _ _ i _ => n - (intOf i).toNat)
  case atStart => exact ⟨0, 0, 0, 0, Nat.zero_le _, rfl, rfl, rfl, rfl, rfl, rfl, rfl, Below.refl _ _⟩
  case round =>
  obtain ⟨k, B, S, D, hk, rfl, rfl, rfl, rfl, eB, eS, eD, hB⟩ := hrel
  by_cases hlt : k < n
  · obtain ⟨b, off, rfl, hc⟩ := H2.out.place (by omega)
    have hx : xs[k]? = some (xs[k]'(by omega)) := List.getElem?_eq_getElem (by omega)
    obtain ⟨x, hx'⟩ : ∃ x, xs[k]'(by omega) = x := ⟨_, rfl⟩
    have hmem : x ∈ xs := by rw [← hx']; exact List.getElem_mem _
    rw [hx'] at hx
    clear hx'
    have c := hc k x hx
    have n1 := sumBy_next NoteT.bal xs k x hx
    have n2 := sumBy_next NoteT.s xs k x hx
    have n3 := sumBy_next NoteT.d xs k x hx
    rw [eB] at n1
    rw [eS] at n2
    rw [eD] at n3
    have f1 := H1.out.1 (k + 1)
    have f2 := H1.out.2.1 (k + 1)
    have f3 := H1.out.2.2 (k + 1)
    rw [n1] at f1
    rw [n2] at f2
    rw [n3] at f3
    have N1 : Hid (sumBy NoteT.bal (xs.take (k + 1)) = B + x.bal) := n1
    have N2 : Hid (sumBy NoteT.s (xs.take (k + 1)) = S + x.s) := n2
    have N3 : Hid (sumBy NoteT.d (xs.take (k + 1)) = D + x.d) := n3
    have HCx : Hid (Calm x.og x.i x.q x.d) := H3.out x hmem
    clear n1 n2 n3 hc hmem hx eB eS eD
    obtain ⟨rk, og, rt, i, q, s, d⟩ := x
    have c0 := c 0 _ rfl; have c1 := c 1 _ rfl; have c2 := c 2 _ rfl; have c3 := c 3 _ rfl; have c4 := c 4 _ rfl; have c5 := c 5 _ rfl; have c6 := c 6 _ rfl
    have hlb := cell_block c0
    rw [Nat.add_zero] at c0
    replace c0 := cell_keep (hB.mono (Nat.le_refl _)) c0
    replace c1 := cell_keep hB c1
    replace c2 := cell_keep hB c2
    replace c3 := cell_keep hB c3
    replace c4 := cell_keep hB c4
    replace c5 := cell_keep hB c5
    replace c6 := cell_keep hB c6
    clear c hlb
    simp only at c0 c1 c2 c3 c4 c5 c6 f2 f3
    obtain ⟨BB, hBB⟩ : ∃ BB, bal og i q d = BB := ⟨_, rfl⟩
    have HBB : Hid (bal og i q d = BB) := hBB
    have e1 : NoteT.bal ⟨rk, og, rt, i, q, s, d⟩ = BB := hBB
    rw [e1] at f1
    clear e1 hBB
    go_upto_region 4 with fail
    refine wp_letter (fun wx => Below w.heap.size w wx ∧ ∃ Q, wr.heap.size = Q ∧ Nt wx Q 0 rk og rt i q s d) ⟨below_alloc hB _, _, rfl, Nt.fresh _ _ _ _ _ _ _ _ _⟩ ?_
    clear hB c0 c1 c2 c3 c4 c5 c6
    rintro V ⟨hB, Q, eQ, hN⟩
    rw [eQ]
    clear eQ
    obtain ⟨y0, y1, y2, y3, y4, y5, y6, _⟩ := id hN
    go_wp2_with (go_at_call 12; refine (balance_to HCx.out HBB.out).mono ?_; rintro e wn ⟨rfl, bn⟩; replace y5 := cell_keep bn y5; replace y6 := cell_keep bn y6)
    go_roundw
    case rel => exact ⟨k + 1, B + BB, S + s, D + d, by omega, by go_num, rfl, rfl, rfl, by rw [N1.out, ← HBB.out]; rfl, by rw [N2.out], by rw [N3.out], below_then hB bn⟩
    case measure => simp [intOf]; omega
  · have hkn : k = n := by omega
    subst hkn
    rw [H4.out] at eB eS eD
    subst eB eS eD
    clear H1 H2 H3 H4
    go_wp2
    go_ret3
    exact ⟨rfl, hB⟩
end Go.Proofs.Ytpfoimjmnmlnkaa
