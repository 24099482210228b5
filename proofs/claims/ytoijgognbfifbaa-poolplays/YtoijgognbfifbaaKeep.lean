/-
  Package cascadekeep: numbers of which a tape is made; the walks of pick and Lines.
-/
import Derived.Test.YtoijgognbfifbaaTapeRight
import Derived.Test.YtoijgognbfifbaaBook
namespace Go.Proofs.Ytoijgognbfifbaa
open Go.RowKit

/-- Within, from 0 on, its outcome a letter. -/
theorem win_to {n hi X : Int} (h0 : 0 ≤ hi) (h1 : hi ≤ 4611686018427387902) (e : n % (hi + 1) = X) (w : World) :
    Calls Try.prog 22 #[.int .i64 n, .int .i64 0, .int .i64 hi] w fun e w' => e = .returned (.int .i64 X) ∧ w' = w := by
  have := within_any n 0 hi (by omega) h0 (by omega) (by omega) w
  rw [Int.sub_zero, Int.zero_add, e] at this
  exact this
theorem win_bd (n hi : Int) (h0 : 0 ≤ hi) : 0 ≤ n % (hi + 1) ∧ n % (hi + 1) ≤ hi := by
  have h1 := Int.emod_nonneg n (b := hi + 1) (by omega)
  have h2 := Int.emod_lt_of_pos n (b := hi + 1) (by omega)
  omega

theorem own_base {w : World} {base base' : Nat} {e : TypeId} {m : Nat} {v : Value} {n : Nat} {xs : List Value} (h : w.ownsRow base e m v n xs) (hb : base' ≤ base) : w.ownsRow base' e m v n xs := by
  refine ⟨h.1, ?_⟩
  rcases h.2 with h | ⟨g, cap, cur, rfl, h1, h2⟩
  · exact Or.inl h
  · exact Or.inr ⟨g, cap, cur, rfl, Nat.le_trans hb h1, h2⟩

theorem cell_grown {w w' : World} {row : Option Nat} {a : Addr} {v : Value} (hg : w.grownBy w' row) (hr : row ≠ some a.block) (h : w.cell? a = some v) : w'.cell? a = some v := by
  rw [World.cell?_of_block (hg.block a.block (cell_block h) (fun e => hr e.symm))]
  exact h
/-- The i-th of a list, round and round; 0 if there is none. -/
def pickV (zs : List Int) (i : Nat) : Int := zs.getD (i % zs.length) 0
/-- One number of a slice, as it lies there. -/
theorem Lies.num {w : World} {a : Option Addr} {n cap : Nat} {zs : List Int} (h : Lies 1 intF w (.slice a n cap) zs) (k : Nat) (hk : k < n) :
    ∃ b off, a = some ⟨b, off, none⟩ ∧ w.cell? ⟨b, off + k, none⟩ = some (.int .i64 (zs.getD k 0)) := by
  obtain ⟨b, off, rfl, hc⟩ := h.place (by omega)
  have hl := h.len
  have hx : zs[k]? = some (zs[k]'(by omega)) := List.getElem?_eq_getElem (by omega)
  have c0 := hc k _ hx 0 _ rfl
  rw [Nat.add_zero, Nat.mul_one] at c0
  exact ⟨b, off, rfl, by rw [c0]; simp [hx]⟩

set_option maxHeartbeats 1000000 in
theorem pick_to {s : Value} {zs : List Int} {k : Nat} {N : Int} {w : World} (h : Lies 1 intF w s zs) (_ : k ≤ 1000000) (e : pickV zs k = N) :
    Calls Try.prog 28 #[s, .int .i64 k] w fun e w' => e = .returned (.int .i64 N) ∧ w' = w := by
  have HL := h
  obtain ⟨a, cap, rfl, _, hcm, _, _⟩ := h
  obtain ⟨n, hn⟩ : ∃ n, zs.length = n := ⟨_, rfl⟩
  have hl := HL.len
  unfold maxLen at hl
  rw [hn] at HL hl ⊢
  unfold pickV at e
  rw [hn] at e
  have hm : n ≤ 9223372036854775807 := by omega
  rcases Nat.eq_zero_or_pos n with h0 | h0
  · subst h0
    have : zs = [] := List.eq_nil_of_length_eq_zero hn
    subst this
    simp at e
    subst e
    clear HL hl hcm hn
    go_enter Try.func28, Try.ntmps28
    go_wp2
    go_ret
    exact ⟨rfl, rfl⟩
  · obtain ⟨q, hq⟩ : ∃ q, k % n = q := ⟨_, rfl⟩
    have hqn : q < n := by rw [← hq]; exact Nat.mod_lt _ h0
    rw [hq] at e
    have ht : Int.tmod (k : Int) (n : Int) = (q : Int) := by rw [← hq]; rfl
    obtain ⟨b, off, rfl, c⟩ := HL.num q hqn
    rw [e] at c
    have hn0 : (n : Int) ≠ 0 := by omega
    have hn1 : ((n : Int) == 0) = false := by simp; omega
    clear HL hl hcm hn e hq
    go_enter Try.func28, Try.ntmps28
    go_wp2
    go_ret
    exact ⟨rfl, rfl⟩

/-- Numbers of which a tape is made. -/
def TapeIn (w : World) (v : Value) : Prop :=
  ∃ (s0 s1 s2 s3 s4 s5 : Value) (z0 z1 z2 z3 z4 z5 : List Int), v = .agg #[s0, s1, s2, s3, s4, s5] ∧ Lies 1 intF w s0 z0 ∧ Lies 1 intF w s1 z1 ∧ Lies 1 intF w s2 z2 ∧ Lies 1 intF w s3 z3 ∧ Lies 1 intF w s4 z4 ∧ Lies 1 intF w s5 z5
theorem holds_one {w : World} {c : List Value} (h : Holds w (.slice 1 (.int .i64)) c) : ∃ s zs, c = [s] ∧ Lies 1 intF w s zs := by
  obtain ⟨a, len, cap, rfl, h'⟩ := id h
  obtain ⟨zs, hz, _⟩ := arg_ints (w := w) (v := .slice a len cap) h
  exact ⟨_, zs, rfl, hz⟩
theorem arg_tape {w : World} {v : Value} (h : Arg w (.struct (.cons 1 (.slice 1 (.int .i64)) (.cons 1 (.slice 1 (.int .i64)) (.cons 1 (.slice 1 (.int .i64)) (.cons 1 (.slice 1 (.int .i64)) (.cons 1 (.slice 1 (.int .i64)) (.cons 1 (.slice 1 (.int .i64)) .nil))))))) v) : TapeIn w v := by
  obtain ⟨cs, rfl, _, _, rfl, _, h0, _, _, rfl, _, h1, _, _, rfl, _, h2, _, _, rfl, _, h3, _, _, rfl, _, h4, _, _, rfl, _, h5, rfl⟩ := h
  obtain ⟨s0, z0, rfl, l0⟩ := holds_one h0
  obtain ⟨s1, z1, rfl, l1⟩ := holds_one h1
  obtain ⟨s2, z2, rfl, l2⟩ := holds_one h2
  obtain ⟨s3, z3, rfl, l3⟩ := holds_one h3
  obtain ⟨s4, z4, rfl, l4⟩ := holds_one h4
  obtain ⟨s5, z5, rfl, l5⟩ := holds_one h5
  exact ⟨s0, s1, s2, s3, s4, s5, z0, z1, z2, z3, z4, z5, rfl, l0, l1, l2, l3, l4, l5⟩
theorem TapeIn.below {w w' : World} {v : Value} (h : TapeIn w v) (b : Below w.heap.size w w') : TapeIn w' v := by
  obtain ⟨s0, s1, s2, s3, s4, s5, z0, z1, z2, z3, z4, z5, rfl, l0, l1, l2, l3, l4, l5⟩ := h
  exact ⟨s0, s1, s2, s3, s4, s5, z0, z1, z2, z3, z4, z5, rfl, l0.below b, l1.below b, l2.below b, l3.below b, l4.below b, l5.below b⟩

/-- The last Id. -/
def lastId : Int → List LineT → Int
  | a, [] => a
  | _, x :: r => lastId x.id r
theorem lastId_snoc : ∀ (a : Int) (xs : List LineT) (x : LineT), lastId a (xs ++ [x]) = x.id
  | _, [], _ => rfl
  | _, y :: r, x => lastId_snoc y.id r x
theorem rightFrom_snoc : ∀ (a : Int) (xs : List LineT) (x : LineT), rightFrom a (xs ++ [x]) = (rightFrom a xs && (decide (lastId a xs < x.id) && x.ok))
  | a, [], x => by
    show (decide (a < x.id) && x.ok && true) = (true && (decide (a < x.id) && x.ok))
    rw [Bool.and_true, Bool.true_and]
  | a, y :: r, x => by
    rw [List.cons_append, rightFrom, rightFrom, rightFrom_snoc y.id r x, lastId]
    simp only [Bool.and_assoc]

theorem Try.info_line : (Try.prog.info? 32).map (fun i => (i.zero, i.size, i.bytes)) = some (some (.agg #[.int .i64 0, .int .i64 0, .int .i64 0, .int .i64 0, .int .i64 0, .int .i64 0, .bool false]), 7, 56) := by kernel_rfl

/-- The lines so far. -/
structure LinesInv (W wr : World) (v : Value) (k : Nat) (I : Int) (xs : List LineT) : Prop where
  len : xs.length = k
  own : wr.ownsRow W.heap.size 32 7 v k (xs.flatMap LineT.f)
  right : rightFrom 0 xs = true
  last : lastId 0 xs = I
  i0 : 0 ≤ I
  i1 : I ≤ 4 * k
  below : Below W.heap.size W wr

set_option maxRecDepth 1000000 in
set_option maxHeartbeats 4000000 in
theorem lines_any (v : Value) (w : World) (h : TapeIn w v) :
    Calls Try.prog 13 #[v] w fun e w' => ∃ v' xs, e = .returned v' ∧ xs.length ≤ 12 ∧ rightFrom 0 xs = true ∧ w'.ownsRow w.heap.size 32 7 v' xs.length (xs.flatMap LineT.f) ∧ Below w.heap.size w w' := by
  obtain ⟨i0, hi, hz0, hz1, hz2⟩ := info_parts Try.info_line
  obtain ⟨s0, s1, s2, s3, s4, s5, z0, z1, z2, z3, z4, z5, rfl, l0, l1, l2, l3, l4, l5⟩ := h
  obtain ⟨a0, c0, rfl, _, _, _, _⟩ := id l0
  obtain ⟨n0, hn0⟩ : ∃ n, z0.length = n := ⟨_, rfl⟩
  rw [hn0] at l0 ⊢
  have hl := l0.len
  unfold maxLen at hl
  have hm : n0 ≤ 9223372036854775807 := by omega
  have hm2 : n0 ≤ c0 := hl.2.1
  clear hl
  go_enter Try.func13, Try.ntmps13
  go_upto_region 1 with fail
  refine wp_letter (fun wx => Below w.heap.size w wx ∧ w.heap.size ≤ wx.heap.size ∧ ∃ g, w.heap.size = g ∧ Blk wx g 43 [.slice a0 n0 c0, s1, s2, s3, s4, s5]) ⟨below_alloc (Below.refl _ _) _, by simp, _, rfl, Blk.fresh _ _ _⟩ ?_
  rintro W ⟨hW, hWs, g, hg, hb⟩
  rw [hg]
  have L0 : Hid (Lies 1 intF W (.slice a0 n0 c0) z0) := l0.below hW
  have L1 : Hid (Lies 1 intF W s1 z1) := l1.below hW
  have L2 : Hid (Lies 1 intF W s2 z2) := l2.below hW
  have L3 : Hid (Lies 1 intF W s3 z3) := l3.below hW
  have L4 : Hid (Lies 1 intF W s4 z4) := l4.below hW
  have L5 : Hid (Lies 1 intF W s5 z5) := l5.below hW
  clear l0 l1 l2 l3 l4 l5
  go_wp2
  go_loopw [3, 4, 5] (fun v d i wr => ∃ (k : Nat) (I : Int) (xs : List LineT), k ≤ 12 ∧ i = .int .i64 k ∧ d = .int .i64 I ∧ LinesInv W wr v k I xs) (fun _ _ i _ => 12 - (intOf i).toNat)
  case atStart => exact ⟨0, 0, [], by omega, rfl, rfl, ⟨rfl, World.ownsRow_nil _ _ _ _, rfl, rfl, by omega, by omega, Below.refl _ _⟩⟩
  case round =>
  obtain ⟨k, I, xs, hk, rfl, rfl, hI⟩ := hrel
  have HI : Hid (LinesInv W wr u3 k I xs) := hI
  have I0 := hI.i0
  have I1 := hI.i1
  have y0 := (hb.then hI.below).cell 0 _ rfl
  clear hI
  by_cases g1 : k < n0
  · by_cases g2 : k < 12
    · obtain ⟨b, off, rfl, cp⟩ := L0.out.num k g1
      have hB := HI.out.below
      replace cp := cell_keep hB cp
      have y1 := (hb.then hB).cell 1 _ rfl
      have y2 := (hb.then hB).cell 2 _ rfl
      have y3 := (hb.then hB).cell 3 _ rfl
      have y4 := (hb.then hB).cell 4 _ rfl
      have y5 := (hb.then hB).cell 5 _ rfl
      generalize z0.getD k 0 = N0 at cp
      have K1 : Hid (Lies 1 intF wr.drew s1 z1) := (L1.out.below hB).below (Below.refl _ _).drew
      have K2 : Hid (Lies 1 intF wr.drew s2 z2) := (L2.out.below hB).below (Below.refl _ _).drew
      have K3 : Hid (Lies 1 intF wr.drew s3 z3) := (L3.out.below hB).below (Below.refl _ _).drew
      have K4 : Hid (Lies 1 intF wr.drew s4 z4) := (L4.out.below hB).below (Below.refl _ _).drew
      have K4w : Hid (Lies 1 intF wr s4 z4) := L4.out.below hB
      have K5 : Hid (Lies 1 intF wr.drew s5 z5) := (L5.out.below hB).below (Below.refl _ _).drew
      obtain ⟨N1, e1⟩ : ∃ N, pickV z1 k = N := ⟨_, rfl⟩
      obtain ⟨N2, e2⟩ : ∃ N, pickV z2 k = N := ⟨_, rfl⟩
      obtain ⟨N3, e3⟩ : ∃ N, pickV z3 k = N := ⟨_, rfl⟩
      obtain ⟨N4, e4⟩ : ∃ N, pickV z4 k = N := ⟨_, rfl⟩
      obtain ⟨N5, e5⟩ : ∃ N, pickV z5 k = N := ⟨_, rfl⟩
      have P1 : Hid (pickV z1 k = N1) := e1
      have P2 : Hid (pickV z2 k = N2) := e2
      have P3 : Hid (pickV z3 k = N3) := e3
      have P4 : Hid (pickV z4 k = N4) := e4
      have P5 : Hid (pickV z5 k = N5) := e5
      clear e1 e2 e3 e4 e5
      obtain ⟨J, eJ⟩ : ∃ J, N4 % (3 + 1) = J := ⟨_, rfl⟩
      have hJ := win_bd N4 3 (by omega)
      rw [eJ] at hJ
      obtain ⟨j0, j1⟩ := hJ
      have EJ : Hid (N4 % (3 + 1) = J) := eJ
      obtain ⟨A0, e0⟩ : ∃ J, N0 % (1099511627776 + 1) = J := ⟨_, rfl⟩
      have h0 := win_bd N0 1099511627776 (by omega)
      rw [e0] at h0
      have E0 : Hid (N0 % (1099511627776 + 1) = A0) := e0
      obtain ⟨A1, e1⟩ : ∃ J, N1 % (9000 + 1) = J := ⟨_, rfl⟩
      have h1 := win_bd N1 9000 (by omega)
      rw [e1] at h1
      have E1 : Hid (N1 % (9000 + 1) = A1) := e1
      obtain ⟨A2, e2⟩ : ∃ J, N2 % (1099511627776 + 1) = J := ⟨_, rfl⟩
      have h2 := win_bd N2 1099511627776 (by omega)
      rw [e2] at h2
      have E2 : Hid (N2 % (1099511627776 + 1) = A2) := e2
      obtain ⟨A3, e3⟩ : ∃ J, N3 % (900 + 1) = J := ⟨_, rfl⟩
      have h3 := win_bd N3 900 (by omega)
      rw [e3] at h3
      have E3 : Hid (N3 % (900 + 1) = A3) := e3
      obtain ⟨A4, e4⟩ : ∃ J, N4 % (12 + 1) = J := ⟨_, rfl⟩
      have h4 := win_bd N4 12 (by omega)
      rw [e4] at h4
      have E4 : Hid (N4 % (12 + 1) = A4) := e4
      obtain ⟨D, hD⟩ : ∃ D, (bits .and .i64 N5 7 == 7) = D := ⟨_, rfl⟩
      have HX : Hid (LineT.ok ⟨I + 1 + J, A0, A1, A2, A3, A4, D⟩ = true) := (LineT.ok_iff _).2 ⟨⟨h0.1, h0.2, h1.1, by simp only; omega, h2.1, h2.2, h3.1, by simp only; omega⟩, h4.1, h4.2⟩
      clear eJ e0 e1 e2 e3 e4 h0 h1 h2 h3 h4
      go_upto_region 7 with (first | ((go_at_call_of 28 (s4); refine (pick_to (K4w).out (by omega) (P4).out).mono ?_; rintro e wq ⟨rfl, hq⟩; have hq := hq.symm; subst hq)) | ((go_at_call_of 22 (N4); refine (win_to (by omega) (by omega) (EJ).out _).mono ?_; rintro e wq ⟨rfl, hq⟩; have hq := hq.symm; subst hq)))
      have gb : g < W.heap.size := hb.lt
      have bb : b < W.heap.size := by
        obtain ⟨b', off', e', c'⟩ := L0.out.num k g1
        simp only [Option.some.injEq, Addr.mk.injEq] at e'
        obtain ⟨rfl, rfl, _⟩ := e'
        exact cell_block c'
      have S0 : wr.cell? ⟨g, 0, none⟩ = some (.slice (some ⟨b, off, none⟩) n0 c0) ∧ wr.cell? ⟨g, 1, none⟩ = some s1 ∧ wr.cell? ⟨g, 2, none⟩ = some s2 ∧ wr.cell? ⟨g, 3, none⟩ = some s3 ∧ wr.cell? ⟨g, 4, none⟩ = some s4 ∧ wr.cell? ⟨g, 5, none⟩ = some s5 ∧ wr.cell? ⟨b, off + k, none⟩ = some (.int .i64 N0) := ⟨y0, y1, y2, y3, y4, y5, cp⟩
      have cA : ∀ wx, Below wr.heap.size wr wx → wx.cell? ⟨g, 0, none⟩ = some (.slice (some ⟨b, off, none⟩) n0 c0) ∧ wx.cell? ⟨g, 1, none⟩ = some s1 ∧ wx.cell? ⟨g, 2, none⟩ = some s2 ∧ wx.cell? ⟨g, 3, none⟩ = some s3 ∧ wx.cell? ⟨g, 4, none⟩ = some s4 ∧ wx.cell? ⟨g, 5, none⟩ = some s5 ∧ wx.cell? ⟨b, off + k, none⟩ = some (.int .i64 N0) := fun wx bx => ⟨cell_keep bx y0, cell_keep bx y1, cell_keep bx y2, cell_keep bx y3, cell_keep bx y4, cell_keep bx y5, cell_keep bx cp⟩
      have OW : Hid ((wr.drew.alloc (.cells #[.int .i64 (I + 1 + J), .int .i64 A0, .int .i64 A1, .int .i64 A2, .int .i64 A3, .int .i64 A4, .bool D] 32)).ownsRow W.heap.size 32 7 u3 k (xs.flatMap LineT.f)) := HI.out.own.drew.alloc _
      have SR : Hid (Src (wr.drew.alloc (.cells #[.int .i64 (I + 1 + J), .int .i64 A0, .int .i64 A1, .int .i64 A2, .int .i64 A3, .int .i64 A4, .bool D] 32)) (.slice (some ⟨wr.heap.size, 0, none⟩) 1 1) 1 (LineT.f ⟨I + 1 + J, A0, A1, A2, A3, A4, D⟩)) := src_new wr.drew _ 1 _
      have BS : Hid (W.heap.size ≤ (wr.drew.alloc (.cells #[.int .i64 (I + 1 + J), .int .i64 A0, .int .i64 A1, .int .i64 A2, .int .i64 A3, .int .i64 A4, .bool D] 32)).heap.size) := by
        have := HI.out.below.size
        show W.heap.size ≤ (wr.drew.alloc (.cells #[.int .i64 (I + 1 + J), .int .i64 A0, .int .i64 A1, .int .i64 A2, .int .i64 A3, .int .i64 A4, .bool D] 32)).heap.size
        simp
        omega
      have SA : Hid (∀ w2, (wr.drew.alloc (.cells #[.int .i64 (I + 1 + J), .int .i64 A0, .int .i64 A1, .int .i64 A2, .int .i64 A3, .int .i64 A4, .bool D] 32)).grownBy w2 u3.ownBlock → w2.cell? ⟨g, 0, none⟩ = some (.slice (some ⟨b, off, none⟩) n0 c0) ∧ w2.cell? ⟨g, 1, none⟩ = some s1 ∧ w2.cell? ⟨g, 2, none⟩ = some s2 ∧ w2.cell? ⟨g, 3, none⟩ = some s3 ∧ w2.cell? ⟨g, 4, none⟩ = some s4 ∧ w2.cell? ⟨g, 5, none⟩ = some s5 ∧ w2.cell? ⟨b, off + k, none⟩ = some (.int .i64 N0)) := fun w2 hgr => by
        have q := cA (wr.drew.alloc (.cells #[.int .i64 (I + 1 + J), .int .i64 A0, .int .i64 A1, .int .i64 A2, .int .i64 A3, .int .i64 A4, .bool D] 32)) (below_alloc (Below.refl _ _).drew _)
        have ng : ∀ a : Addr, a.block < W.heap.size → u3.ownBlock ≠ some a.block := fun a ha e => by
          have := (HI.out.own.lt _ e).1
          omega
        exact ⟨cell_grown hgr (ng _ gb) q.1, cell_grown hgr (ng _ gb) q.2.1, cell_grown hgr (ng _ gb) q.2.2.1, cell_grown hgr (ng _ gb) q.2.2.2.1, cell_grown hgr (ng _ gb) q.2.2.2.2.1, cell_grown hgr (ng _ gb) q.2.2.2.2.2.1, cell_grown hgr (ng _ bb) q.2.2.2.2.2.2⟩
      go_region_held3 (fun wx => wx.cell? ⟨g, 0, none⟩ = some (.slice (some ⟨b, off, none⟩) n0 c0) ∧ wx.cell? ⟨g, 1, none⟩ = some s1 ∧ wx.cell? ⟨g, 2, none⟩ = some s2 ∧ wx.cell? ⟨g, 3, none⟩ = some s3 ∧ wx.cell? ⟨g, 4, none⟩ = some s4 ∧ wx.cell? ⟨g, 5, none⟩ = some s5 ∧ wx.cell? ⟨b, off + k, none⟩ = some (.int .i64 N0)) (first | (with_reducible assumption) | (exact S0) | (exact cA _ (below_alloc (Below.refl _ _).drew _))) (first
        | ((go_at_call_of 28 (s1); refine (pick_to (K1).out (by omega) (P1).out).mono ?_; rintro e wq ⟨rfl, hq⟩; have hq := hq.symm; subst hq)) | ((go_at_call_of 28 (s2); refine (pick_to (K2).out (by omega) (P2).out).mono ?_; rintro e wq ⟨rfl, hq⟩; have hq := hq.symm; subst hq)) | ((go_at_call_of 28 (s3); refine (pick_to (K3).out (by omega) (P3).out).mono ?_; rintro e wq ⟨rfl, hq⟩; have hq := hq.symm; subst hq)) | ((go_at_call_of 28 (s4); refine (pick_to (K4).out (by omega) (P4).out).mono ?_; rintro e wq ⟨rfl, hq⟩; have hq := hq.symm; subst hq)) | ((go_at_call_of 28 (s5); refine (pick_to (K5).out (by omega) (P5).out).mono ?_; rintro e wq ⟨rfl, hq⟩; have hq := hq.symm; subst hq))
        | ((go_at_call_of 22 (N0); refine (win_to (by omega) (by omega) (E0).out _).mono ?_; rintro e wq ⟨rfl, hq⟩; have hq := hq.symm; subst hq)) | ((go_at_call_of 22 (N1); refine (win_to (by omega) (by omega) (E1).out _).mono ?_; rintro e wq ⟨rfl, hq⟩; have hq := hq.symm; subst hq)) | ((go_at_call_of 22 (N2); refine (win_to (by omega) (by omega) (E2).out _).mono ?_; rintro e wq ⟨rfl, hq⟩; have hq := hq.symm; subst hq)) | ((go_at_call_of 22 (N3); refine (win_to (by omega) (by omega) (E3).out _).mono ?_; rintro e wq ⟨rfl, hq⟩; have hq := hq.symm; subst hq)) | ((go_at_call_of 22 (N4); refine (win_to (by omega) (by omega) (E4).out _).mono ?_; rintro e wq ⟨rfl, hq⟩; have hq := hq.symm; subst hq))
        | ((refine step_append_src (by rfl) (.tmp 25) (.tmp 60) 33 (by rfl) W.heap.size 32 i0 (.agg #[.int .i64 0, .int .i64 0, .int .i64 0, .int .i64 0, .int .i64 0, .int .i64 0, .bool false]) 7 56 Try.underlying33 hi hz0 hz1 hz2 rfl (by decide) u3 k (xs.flatMap LineT.f) (by rfl) OW.out (.slice (some ⟨wr.heap.size, 0, none⟩) 1 1) 1 (LineT.f ⟨I + 1 + J, A0, A1, A2, A3, A4, D⟩) (by rfl) SR.out rfl (LineT.one _) (by unfold maxLen; omega) (by omega) BS.out ?_; intro v' w2 ow gr _; have SB := SA.out w2 gr; have B2 : Hid (Below W.heap.size W w2) := below_grown (below_alloc HI.out.below.drew _) gr (fun k h => (HI.out.own.lt k h).1); have O2 : Hid (w2.ownsRow W.heap.size 32 7 v' (k + 1) (xs.flatMap LineT.f ++ LineT.f ⟨I + 1 + J, A0, A1, A2, A3, A4, D⟩)) := ow; clear ow gr)))
      clear S0 cA OW SR BS SA SB y0 y1 y2 y3 y4 y5 cp
      go_wp2
      go_roundw
      case rel => exact ⟨k + 1, I + 1 + J, xs ++ [⟨I + 1 + J, A0, A1, A2, A3, A4, D⟩], by omega, by go_num, rfl, ⟨by simp [HI.out.len], own_more _ O2.out, by rw [rightFrom_snoc, HI.out.right, HI.out.last, HX.out]; simp; omega, lastId_snoc _ _ _, by omega, by omega, B2.out⟩⟩
      case measure => simp [intOf]; omega
    · go_wp2
      go_ret
      exact ⟨_, xs, rfl, by rw [HI.out.len]; exact hk, HI.out.right, by rw [HI.out.len]; exact own_base HI.out.own hWs, below_then hW HI.out.below⟩
  · go_wp2
    go_ret
    exact ⟨_, xs, rfl, by rw [HI.out.len]; exact hk, HI.out.right, by rw [HI.out.len]; exact own_base HI.out.own hWs, below_then hW HI.out.below⟩
end Go.Proofs.Ytoijgognbfifbaa
