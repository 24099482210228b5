/-
  The walk of PurseChain.
-/
import Derived.Test.YtkjglnjneblomaaPurseRow
import Derived.Test.YtkjglnjneblomaaBook
namespace Go.Proofs.Ytkjglnjneblomaa
open Go.RowKit

/-- All of one is moved to the first. -/
theorem move_home (G m g : Nat) (A B J U : Int) (I O : Nat → Int) (w : World) (h : Rw w G I O A B) (m1 : 1 ≤ m) (m5 : m < 5) (hg : g ≠ G) (A1 : A ≤ 1099511627776) (B1 : B ≤ 1125899906842624) (hJ : I m = J) (hU : O m = U) (hZ : ∀ j, 1 ≤ j → j < m → I j - O j = 0)
    (h0 : w.cell? ⟨g, 0, none⟩ = some (.pointer (some ⟨G, 0, none⟩))) :
    Calls Try.prog 15 #[.int .i64 (J - U), .pointer (some ⟨G, m * 2, none⟩), .slice (some ⟨g, 0, none⟩) 1 1] w fun e w' => e = .returned (.int .i64 (J - U)) ∧
      ∃ I' O', Rw w' G I' O' A (B + 1099511627776) ∧ (∀ j, 1 ≤ j → j < m + 1 → I' j - O' j = 0) ∧ Pur w' G (m * 2) J J ∧ ∀ C a, Below C a w → C ≤ G → C ≤ w.heap.size → Below C a w' := by
  have hf := h.fit m m5
  have hg2 : goes (I m) (O m) (J - U) = J - U := by
    rw [hJ, hU] at hf
    rw [hJ, hU]
    exact goes_all ⟨by omega, by omega, by omega⟩
  have key := move_row G m 0 g (J - U) A B I O w h m5 (by omega) (by omega) hg A1 B1 (by simpa using h0)
  rw [hg2] at key
  refine key.mono ?_
  rintro e w' ⟨rfl, r, b⟩
  have pm := r.pur m m5
  rw [turn_off _ _ _ _ (by omega), turn_at, hJ, hU, show U + (J - U) = J by omega] at pm
  refine ⟨rfl, _, _, r, fun j j1 j2 => ?_, pm, b⟩
  rw [turn_off _ _ _ _ (by omega)]
  by_cases e : j = m
  · subst e
    rw [turn_at, hJ, hU]
    omega
  · rw [turn_off _ _ _ _ e]
    exact hZ j j1 (by omega)

set_option maxRecDepth 100000 in
set_option maxHeartbeats 4000000 in
theorem purseChain_any (first : Int) (a1 : Option Addr) (len1 cap1 : Nat) (z1 : List Int) (w : World) (_w0 : (Lit.int .i64 first).wf = true) (hr1 : Row .i64 w a1 len1 cap1 z1) :
    Calls Try.prog 7 #[.int .i64 first, .slice a1 len1 cap1] w fun e w' => e = .returned (.bool true) ∧ Below w.heap.size w w' := by
  obtain ⟨i0, hi, hz0, hz1, hz2⟩ := info_parts Try.info_purses
  obtain ⟨A, h1⟩ : ∃ b, 0 + first % (1099511627776 - 0 + 1) = b := ⟨_, rfl⟩
  have g1 : 0 + first % 1099511627777 = A := h1
  have E1 : Hid (0 + first % (1099511627776 - 0 + 1) = A) := h1
  have A0 : 0 ≤ A := by omega
  have A1 : A ≤ 1099511627776 := by omega
  have O1 : Hid (ofN A = A) := ofN_in (by omega) (by omega)
  obtain ⟨_, hm1, hz1', hc1⟩ := hr1.cells
  have HC1 : Hid (∀ i, i < len1 → ∃ b off, a1 = some ⟨b, off, none⟩ ∧ w.cell? ⟨b, off + i, none⟩ = some (.int .i64 (z1.getD i 0))) := hc1
  have l1 : len1 ≤ 9223372036854775807 := by unfold maxLen at hm1; omega
  clear h1 g1 _w0 hr1 hc1 hm1 hz1'
  go_enter Try.func7, Try.ntmps7
  go_upto_region 3 with (first
    | (go_at_call 16; refine (within_any _ _ _ (by omega) (by omega) (by omega) (by omega) _).mono ?_; rintro e wq ⟨rfl, hq⟩; have hq := hq.symm; subst hq; rw [E1.out])
    | (at_make; refine wpList_make_full _ rfl _ _ 39 rfl w.heap.size 23 i0 (.agg #[.int .i64 0, .int .i64 0]) 2 Try.underlying39 hi hz0 hz1 .i64 .i64 _ _ 5 rfl rfl (by simp) (by simp) (by rw [hz2]; omega) (by unfold maxLen; omega) (Nat.le_refl _) ?_; intro w1 o1 g1))
  have b1 : Below w.heap.size w w1 := below_grown (Below.refl _ _) g1 (fun k hk => by simp at hk)
  have r1 := own_five o1
  obtain ⟨G, hG⟩ : ∃ G, w.heap.size = G := ⟨_, rfl⟩
  rw [hG] at r1
  rw [hG]
  have hGs : w.heap.size ≤ G := by omega
  clear hG o1 g1 hi hz0 hz1 hz2
  go_upto_region 4 with (go_at_call 8; refine (of_any _ _).mono ?_; rw [O1.out]; rintro e w2 ⟨rfl, q2⟩; have r2 := r1.then q2; obtain ⟨x0, x1, x2, x3⟩ := r2.pur 0 (by omega))
  refine wp_letter (fun wx => Below w.heap.size w wx ∧ ∃ I O, Rw wx G I O A 1099511627776) ?_ ?_
  · exact ⟨((below_then b1 q2).setCell (p := ⟨G, 0, none⟩) hGs _).setCell (p := ⟨G, 1, none⟩) hGs _, _, _, (r2.put0 A0).up A1⟩
  rintro W ⟨hB, I, O, hR⟩
  clear x0 x1 x2 x3 r1 r2 b1 q2
  go_wp2
  go_loopw [7] (fun i wr => ∃ (k : Nat) (I O : Nat → Int), k ≤ 20 ∧ i = .int .i64 k ∧ Rw wr G I O A ((k + 1) * 1099511627776) ∧ Below w.heap.size w wr) (fun i _ => 20 - (intOf i).toNat)
  case atStart => exact ⟨0, I, O, by omega, rfl, hR.up (by omega), hB⟩
  case round =>
  clear hB hR I O
  obtain ⟨k, I, O, hk, rfl, hR, hB⟩ := hrel
  go_upto_region 5 with fail
  go_cut [28] (fun c wx => c = .bool (decide (k < len1 ∧ k < 20)) ∧ wr = wx)
  case first =>
    by_cases g1 : k < len1
    · by_cases g2 : k < 20
      · go_wp2
        go_meet
        case rel => exact ⟨by simp [g1]; omega, rfl⟩
      · go_wp2
        go_meet
        case rel => exact ⟨by simp [g1]; omega, rfl⟩
    · go_wp2
      go_meet
      case rel => exact ⟨by simp [g1], rfl⟩
  case rest =>
  obtain ⟨rfl, rfl⟩ := hcut
  by_cases g : k < len1 ∧ k < 20
  · rw [decide_eq_true g]
    obtain ⟨g1, g2⟩ := g
    obtain ⟨f, hf⟩ : ∃ f : Nat, k % 5 = f := ⟨_, rfl⟩
    obtain ⟨t, ht⟩ : ∃ t : Nat, (k + 1 + k / 5) % 5 = t := ⟨_, rfl⟩
    have f5 : f < 5 := by omega
    have t5 : t < 5 := by omega
    have hf' : (k : Int) % 5 = (f : Int) := by omega
    have ht' : ((k : Int) + 1 + (k : Int) / 5) % 5 = (t : Int) := by omega
    have hft : ¬ f = t := by omega
    have hft' : ¬ (f : Int) = (t : Int) := by omega
    clear hf ht
    obtain ⟨b, off, rfl, hcell⟩ := HC1.out k g1
    have hlb := World.block_lt_of_cell? w ⟨b, off + k, none⟩ hcell
    have hlb2 : b < wr.heap.size := Nat.lt_of_lt_of_le hlb hB.size
    generalize z1.getD k 0 = x at hcell
    have cS : ∀ wx, Below w.heap.size w wx → wx.cell? ⟨b, off + k, none⟩ = some (.int .i64 x) := fun wx bx => (bx.cell (p := ⟨b, off + k, none⟩) hlb).trans hcell
    clear hcell hlb
    have k0 : (0 : Int) ≤ (k : Int) := by omega
    have kl : (k : Int) < (len1 : Int) := by omega
    have f0 : (0 : Int) ≤ (f : Int) := by omega
    have fl : (f : Int) < 5 := by omega
    have t0 : (0 : Int) ≤ (t : Int) := by omega
    have tl : (t : Int) < 5 := by omega
    obtain ⟨N, hN⟩ : ∃ N, 0 + x % (2199023255552 - 0 + 1) = N := ⟨_, rfl⟩
    have EN : Hid (0 + x % (2199023255552 - 0 + 1) = N) := hN
    clear hN
    have HR : Hid (Rw wr G I O A ((k + 1) * 1099511627776)) := hR
    have HB : Hid (Below w.heap.size w wr) := hB
    have hlG := (hR.pur 0 (by omega)).lt
    clear hR hB
    go_upto_if 41 with fail
    go_cut [8, 9] (fun _ _ wx => ∃ I' O', Rw wx G I' O' A ((k + 2) * 1099511627776) ∧ Below w.heap.size w wx)
    case first =>
      go_upto_region 9 with fail
      go_region_held3 (fun wx => Below w.heap.size w wx ∧ wx.cell? ⟨b, off + k, none⟩ = some (.int .i64 x))
        (first
          | (with_reducible exact held (cS _) HB.out.drew)
          | (with_reducible exact held (cS _) (below_alloc HB.out.drew _))
          | (with_reducible exact held (cS _) (below_alloc HB.out _).drew)
          | (go_split_ands; with_reducible exact held (cS _) (by assumption)))
        (first
          | ((go_at_call 16; refine (within_any _ _ _ (by omega) (by omega) (by omega) (by omega) _).mono ?_; rintro e wq ⟨rfl, hq⟩; have hq := hq.symm; subst hq; rw [EN.out]))
          | ((go_at_call 15; refine (move_row G f t _ N A _ I O _ (HR.out.then (below_alloc (Below.refl _ _).drew _)) f5 t5 hft (by omega) A1 (by omega) (by simp [go_sem])).mono ?_; rintro e wn ⟨rfl, rn, bn⟩; have bw : Below w.heap.size w wn := bn _ _ (below_alloc HB.out.drew _) hGs (by have := HB.out.size; simp; omega))))
      all_goals
        go_wp2
        go_meet
        case rel => exact ⟨_, _, rn.up (by omega), bw⟩
    case rest =>
    clear HR HB hlG cS k0 kl f0 fl t0 tl EN hft hft' hlb2 I O hf' ht' f5 t5
    obtain ⟨I, O, hR, hB⟩ := hcut
    have HR : Hid (Rw wc G I O A ((k + 2) * 1099511627776)) := hR
    have HB : Hid (Below w.heap.size w wc) := hB
    have HH : Hid (∀ m, m ≤ 5 → 0 ≤ hasTo I O m ∧ hasTo I O m ≤ A) := hasTo_bd hR
    have HS : Hid (hasTo I O 5 = A) := by show _ = _; rw [hasTo_five]; exact hR.sum
    clear hR hB
    go_wp2
    go_loopw [10, 57] (fun s i wx => ∃ m : Nat, m ≤ 5 ∧ i = .int .i64 m ∧ s = .int .i64 (hasTo I O m) ∧ Rw wx G I O A ((k + 2) * 1099511627776) ∧ Below w.heap.size w wx) (fun _ i _ => 5 - (intOf i).toNat)
    case atStart => exact ⟨0, by omega, rfl, rfl, HR.out, HB.out⟩
    case round =>
    obtain ⟨m, hm, rfl, rfl, hR, hB⟩ := hrel
    obtain ⟨s0, s1⟩ := HH.out m hm
    by_cases hlt : m < 5
    · have m0 : (0 : Int) ≤ (m : Int) := by omega
      have ml : (m : Int) < 5 := by omega
      obtain ⟨x0, x1, _, _⟩ := hR.pur m hlt
      obtain ⟨q0, q1, q2⟩ := hR.fit m hlt
      obtain ⟨q3, q4⟩ := hR.has m hlt
      have HX : Hid (hasTo I O (m + 1) = hasTo I O m + (I m - O m)) := rfl
      have HR2 : Hid (Rw wr G I O A ((k + 2) * 1099511627776)) := hR
      generalize I m = J at x0 q1 q2 q3 q4 HX
      generalize O m = U at x1 q0 q1 q3 q4 HX
      generalize hasTo I O m = M at s0 s1 HX
      clear hR
      go_wp2_with (go_at_call 10; refine (has_any _ _ (by omega) (by omega) (by omega) _).mono ?_; rintro e wn ⟨rfl, bn⟩)
      go_roundw
      case rel => exact ⟨m + 1, by omega, by go_num, by rw [HX.out], HR2.out.then bn, below_then hB bn⟩
      case measure => simp [intOf]; omega
    · obtain rfl : m = 5 := by omega
      rw [HS.out]
      have HR2 : Hid (Rw wr G I O A ((k + 2) * 1099511627776)) := hR
      clear hR
      go_wp2
      go_roundw
      case rel => exact ⟨k + 1, I, O, by omega, by go_num, HR2.out.up (by push_cast; omega), hB⟩
      case measure => simp [intOf]; omega
  · rw [decide_eq_false g]
    clear g HC1
    go_wp2
    go_loopw [12] (fun i wx => ∃ (m : Nat) (I O : Nat → Int), 1 ≤ m ∧ m ≤ 5 ∧ i = .int .i64 m ∧ Rw wx G I O A ((21 + m) * 1099511627776) ∧ (∀ j, 1 ≤ j → j < m → I j - O j = 0) ∧ Below w.heap.size w wx) (fun i _ => 5 - (intOf i).toNat)
    case atStart => exact ⟨1, I, O, by omega, by omega, rfl, hR.up (by omega), fun j h1 h2 => by omega, hB⟩
    case round =>
    clear hR hB hk I O
    obtain ⟨m, I, O, m1, m5, rfl, hR, hZ, hB⟩ := hrel
    by_cases hlt : m < 5
    · have mb0 : (0 : Int) ≤ (m : Int) := by omega
      have mbl : (m : Int) < 5 := by omega
      have p0 := hR.pur m hlt
      obtain ⟨q0, q1, q2⟩ := hR.fit m hlt
      obtain ⟨q3, q4⟩ := hR.has m hlt
      have HG : Hid (goes (I m) (O m) (I m - O m) = I m - O m) := goes_all ⟨by omega, by omega, by omega⟩
      have HR : Hid (Rw wr G I O A ((21 + m) * 1099511627776)) := hR
      have HZ : Hid (∀ j, 1 ≤ j → j < m → I j - O j = 0) := hZ
      obtain ⟨J, hJ⟩ : ∃ J, I m = J := ⟨_, rfl⟩
      obtain ⟨U, hU⟩ : ∃ U, O m = U := ⟨_, rfl⟩
      have EJ : Hid (I m = J ∧ O m = U) := ⟨hJ, hU⟩
      rw [hJ, hU] at p0 q3 q4 HG
      rw [hU] at q0
      rw [hJ, hU] at q1
      rw [hJ] at q2
      obtain ⟨x0, x1, _, _⟩ := id p0
      clear hJ hU hR hZ
      go_upto_region 22 with (go_at_call 10; refine (has_any _ _ (by omega) (by omega) (by omega) _).mono ?_; rintro e wv ⟨rfl, bv⟩)
      have hb0 : Below w.heap.size w wv := below_then hB bv
      have hlG := (p0.then bv).lt
      have HR1 : Hid (Rw wv G I O A ((21 + m) * 1099511627776)) := HR.out.then bv
      clear bv p0 x0 x1 hB HR
      have EZ : Hid (∀ j, 1 ≤ j → j < m → I j - O j = 0) := HZ.out
      go_cut [97] (fun c wx => c = .bool false ∧ ∃ I' O', Rw wx G I' O' A ((22 + m) * 1099511627776) ∧ (∀ j, 1 ≤ j → j < m + 1 → I' j - O' j = 0) ∧ Below w.heap.size w wx)
      case first =>
        first | (go_region_with (first
            | ((go_at_call 15; refine (move_home G m _ A _ J U I O _ (HR1.out.then (below_alloc (Below.refl _ _).drew _)) m1 hlt (by omega) A1 (by omega) EJ.out.1 EJ.out.2 EZ.out (by simp [go_sem])).mono ?_; rintro e wn ⟨rfl, I', O', rn, zn, pn, bn⟩; have bw : Below w.heap.size w wn := bn _ _ (below_alloc hb0.drew _) hGs (by have := hb0.size; simp; omega); obtain ⟨y0, y1, _, _⟩ := id pn))
            | ((go_at_call 10; refine (has_any _ _ (by omega) (by omega) (by omega) _).mono ?_; rintro e wu ⟨rfl, bu⟩)))) | fail
        go_wp2
        go_meet
        case rel => exact ⟨rfl, I', O', (rn.then bu).up (by omega), zn, below_then bw bu⟩
      case rest =>
      obtain ⟨rfl, I', O', hR, hZ, hB⟩ := hcut
      clear HR1 EZ HZ EJ HG hlG hb0
      go_wp2
      go_roundw
      case rel => exact ⟨m + 1, I', O', by omega, by omega, by go_num, hR.up (by push_cast; omega), hZ, hB⟩
      case measure => simp [intOf]; omega
    · obtain rfl : m = 5 := by omega
      have h1 := hZ 1 (by omega) (by omega)
      have h2 := hZ 2 (by omega) (by omega)
      have h3 := hZ 3 (by omega) (by omega)
      have h4 := hZ 4 (by omega) (by omega)
      have hs := hR.sum
      unfold has5 at hs
      have h0 : I 0 - O 0 = A := by omega
      obtain ⟨q0, q1, q2⟩ := hR.fit 0 (by omega)
      obtain ⟨x0, x1, _, _⟩ := hR.pur 0 (by omega)
      rw [Nat.zero_mul] at x0 x1
      generalize I 0 = J at *
      generalize O 0 = U at *
      clear hZ h1 h2 h3 h4 hs hR
      go_wp2_with (first
        | (go_at_call 10; refine (has_any _ _ (by omega) (by omega) (by omega) _).mono ?_; rintro e wn ⟨rfl, bn⟩; replace hB := below_then hB bn; clear bn)
        | (go_at_call 3; refine (purseRuns_any _).mono ?_; rintro e wn ⟨rfl, bn⟩; replace hB := below_then hB bn; clear bn))
      go_ret
      exact ⟨rfl, hB⟩
end Go.Proofs.Ytkjglnjneblomaa
