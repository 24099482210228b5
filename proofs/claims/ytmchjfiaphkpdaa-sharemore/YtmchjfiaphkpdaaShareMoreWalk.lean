/-
  The walk of ShareMore.
-/
import Derived.Test.YtmchjfiaphkpdaaShareTimesWalk
import Derived.Deep.RegionWith
namespace Go.Proofs.Ytmchjfiaphkpdaa
open Go.RowKit

theorem ordLeft_eq (n : Int) (zs : List Int) (k : Nat) (hn : 0 ≤ n) (hz : ∀ x ∈ zs, 0 ≤ x) : ordLeft n zs k = n - min n (zs.take k).sum := by
  unfold ordLeft
  rw [inOrd_sum _ n hn (fun x hx => hz x (List.mem_of_mem_take hx))]

/-- With more to give nobody has less. -/
theorem inOrd_more (n b : Int) (zs : List Int) (hn : 0 ≤ n) (hb : 0 ≤ b) (hz : ∀ x ∈ zs, 0 ≤ x) (k : Nat) (hk : k < zs.length) : (inOrd n zs).getD k 0 ≤ (inOrd (n + b) zs).getD k 0 := by
  rw [inOrd_at n zs k hk, inOrd_at (n + b) zs k hk, ordLeft_eq n zs k hn hz, ordLeft_eq (n + b) zs k (by omega) hz]
  omega

/-- A claim in two parts beside each other. -/
def parted (L : List Int) (K : Nat) (p q : Int) : List Int := L.take K ++ [p, q] ++ L.drop (K + 1)

theorem parted_length (L : List Int) (K : Nat) (p q : Int) (hK : K < L.length) : (parted L K p q).length = L.length + 1 := by
  simp [parted]
  omega
theorem parted_at (L : List Int) (K : Nat) (p q : Int) (hK : K < L.length) : (parted L K p q).getD K 0 = p ∧ (parted L K p q).getD (K + 1) 0 = q ∧ (parted L K p q).take K = L.take K := by
  have hl : (L.take K).length = K := by rw [List.length_take]; omega
  unfold parted
  refine ⟨?_, ?_, ?_⟩
  · rw [List.append_assoc, List.getD_eq_getElem?_getD, List.getElem?_append_right (by omega), hl]
    simp
  · rw [List.append_assoc, List.getD_eq_getElem?_getD, List.getElem?_append_right (by omega), hl]
    simp
  · rw [List.append_assoc, List.take_append_of_le_length (by omega), List.take_take, Nat.min_self]

theorem parted_share (n : Int) (L : List Int) (K : Nat) (p : Int) (hn : 0 ≤ n) (_hL : ∀ x ∈ L, 0 ≤ x) (hK : K < L.length) (p0 : 0 ≤ p) (p1 : p ≤ L.getD K 0) :
    (inOrd n (parted L K p (L.getD K 0 - p))).getD K 0 + (inOrd n (parted L K p (L.getD K 0 - p))).getD (K + 1) 0 = (inOrd n L).getD K 0 := by
  have hl := parted_length L K p (L.getD K 0 - p) hK
  obtain ⟨e1, e2, e3⟩ := parted_at L K p (L.getD K 0 - p) hK
  have hr := ordLeft_range n L hn K (by omega)
  have e4 : ordLeft n (parted L K p (L.getD K 0 - p)) K = ordLeft n L K := by unfold ordLeft; rw [e3]
  rw [inOrd_at _ _ K (by omega), inOrd_at _ _ (K + 1) (by omega), inOrd_at _ L K hK, ordLeft_next _ _ K (by omega), e1, e2, e4]
  omega

theorem sumFrom_neg : ∀ (l : List Int) (s : Int) (x : Int), x ∈ l → x < 0 → sumFrom l s = none
  | [], _, x, h, _ => by simp at h
  | c :: r, s, x, h, hx => by
    simp only [sumFrom]
    split
    · rfl
    · rename_i g
      rcases List.mem_cons.mp h with rfl | h
      · omega
      · exact sumFrom_neg r _ x h hx

theorem pro_minus (n : Int) (L : List Int) (K : Nat) (hK : K < L.length) : proL n (L.set K (-1)) = List.replicate L.length 0 := by
  have hm : (-1 : Int) ∈ L.set K (-1) := List.mem_iff_getElem.mpr ⟨K, by simpa using hK, by simp⟩
  unfold proL
  rw [sumFrom_neg _ 0 (-1) hm (by decide), List.length_set]

theorem inOrd_le (n : Int) (zs : List Int) (hn : 0 ≤ n) (k : Nat) (hk : k < zs.length) : 0 ≤ (inOrd n zs).getD k 0 ∧ (inOrd n zs).getD k 0 ≤ n := by
  have hr := ordLeft_range n zs hn k (by omega)
  rw [inOrd_at n zs k hk]
  omega

/-- A row beside the one that grew. -/
theorem Reads.grown {X w1 : World} {row : Option Nat} {g n cap : Nat} {zs : List Int} (h : Reads X (.slice (some ⟨g, 0, none⟩) n cap) zs) (hg : X.grownBy w1 row) (hne : some g ≠ row) : Reads w1 (.slice (some ⟨g, 0, none⟩) n cap) zs := by
  obtain ⟨a, c, e, h1, h2, hz⟩ := h
  refine ⟨a, c, e, h1, h2, ?_⟩
  rcases hz with rfl | ⟨b, off, e', hc⟩
  · exact Or.inl rfl
  · refine Or.inr ⟨b, off, e', fun i hi => ?_⟩
    have hci := hc i hi
    simp only [Value.slice.injEq] at e
    rw [e'] at e
    simp only [Option.some.injEq, Addr.mk.injEq] at e
    have hb : b = g := e.1.1.symm
    rw [World.cell?_of_block (w := X) (hg.block b (cell_block hci) (by rw [hb]; exact hne))]
    exact hci

set_option maxRecDepth 1000000 in
set_option maxHeartbeats 2000000 in
theorem shareMore_any (n more : Int) (a : Option Addr) (len cap : Nat) (zs : List Int) (at0 cut : Int) (w : World) (_w0 : (Lit.int .i64 n).wf = true) (_w1 : (Lit.int .i64 more).wf = true) (hrow : Row .i64 w a len cap zs) (_w3 : (Lit.int .i64 at0).wf = true) (_w4 : (Lit.int .i64 cut).wf = true) :
    Calls Try.prog 7 #[.int .i64 n, .int .i64 more, .slice a len cap, .int .i64 at0, .int .i64 cut] w fun e w' => e = .returned (.bool true) ∧ Below w.heap.size w w' := by
  obtain ⟨i0, hi, hz0, hz1, hz2⟩ := info_parts Try.info_ints
  have hrd := hrow.reads
  clear hrow _w0 _w1 _w3 _w4
  have HCl := claims_any _ _ w hrd
  clear hrd
  go_enter Try.func7, Try.ntmps7
  go_upto_region 2 with (go_at_call 17; refine HCl.mono ?_; rintro e w1 ⟨v, L, rfl, hL, hLr, hown, hB1⟩)
  clear HCl
  have hR1 := own_reads hown
  clear hown
  obtain ⟨a1, cap1, rfl, hcap1, hm1, hzz⟩ := id hR1
  clear hzz
  obtain ⟨m, hm⟩ : ∃ m, L.length = m := ⟨_, rfl⟩
  have hLp : ∀ x ∈ L, 0 ≤ x := fun x hx => (hLr x hx).1
  obtain ⟨A, hA⟩ : ∃ A, 0 + n % (8796093022208 - 0 + 1) = A := ⟨_, rfl⟩
  obtain ⟨B, hB⟩ : ∃ B, 0 + more % (8796093022208 - 0 + 1) = B := ⟨_, rfl⟩
  have A0 : 0 ≤ A := by omega
  have A1 : A ≤ 8796093022208 := by omega
  have B0 : 0 ≤ B := by omega
  have B1 : B ≤ 8796093022208 := by omega
  have HA : Hid (0 + n % (8796093022208 - 0 + 1) = A) := hA
  have HBb : Hid (0 + more % (8796093022208 - 0 + 1) = B) := hB
  obtain ⟨X, hX⟩ : ∃ X, inOrd A L = X := ⟨_, rfl⟩
  obtain ⟨Y, hY⟩ : ∃ Y, inOrd (A + B) L = Y := ⟨_, rfl⟩
  have HP : Hid (∀ k, k < m → X.getD k 0 ≤ Y.getD k 0 ∧ 0 ≤ L.getD k 0 ∧ L.getD k 0 ≤ 1099511627776) := fun k hk => by
    have hmem : L.getD k 0 ∈ L := by simp [List.getD_eq_getElem?_getD, show k < L.length by omega]
    have := inOrd_more A B L A0 B0 hLp k (by omega)
    rw [hX, hY] at this
    exact ⟨this, hLr _ hmem⟩
  have HZ : Hid (∀ K p, K < m → 0 ≤ p → p ≤ L.getD K 0 → (inOrd A (parted L K p (L.getD K 0 - p))).getD K 0 + (inOrd A (parted L K p (L.getD K 0 - p))).getD (K + 1) 0 = X.getD K 0 ∧ 0 ≤ (inOrd A (parted L K p (L.getD K 0 - p))).getD K 0 ∧ (inOrd A (parted L K p (L.getD K 0 - p))).getD K 0 ≤ A ∧ 0 ≤ (inOrd A (parted L K p (L.getD K 0 - p))).getD (K + 1) 0 ∧ (inOrd A (parted L K p (L.getD K 0 - p))).getD (K + 1) 0 ≤ A) := fun K p hK p0 p1 => by
    have h1 := parted_share A L K p A0 hLp (by omega) p0 p1
    have hl := parted_length L K p (L.getD K 0 - p) (by omega)
    have h2 := inOrd_le A (parted L K p (L.getD K 0 - p)) A0 K (by omega)
    have h3 := inOrd_le A (parted L K p (L.getD K 0 - p)) A0 (K + 1) (by omega)
    rw [hX] at h1
    exact ⟨h1, h2.1, h2.2, h3.1, h3.2⟩
  have HM : Hid (∀ K, K < m → proL A (L.set K (-1)) = List.replicate m 0) := fun K hK => by rw [pro_minus A L K (by omega), hm]
  have HXl : Hid (L.length = m ∧ X.length = m ∧ Y.length = m) := ⟨hm, by rw [← hX, inOrd_length, hm], by rw [← hY, inOrd_length, hm]⟩
  have HI : Hid (∀ W, Below w1.heap.size w1 W → Calls Try.prog 10 #[.int .i64 A, .slice a1 m cap1] W fun e w' => ∃ g, W.heap.size ≤ g ∧ e = .returned (.slice (some ⟨g, 0, none⟩) m m) ∧ Reads w' (.slice (some ⟨g, 0, none⟩) m m) X ∧ Below W.heap.size W w') := fun W hW => by
    have := inOrder_b A _ L W (hR1.below hW) (by omega) (by omega)
    rw [hm, show max A 0 = A by omega, hX] at this
    exact this
  have HI2 : Hid (∀ W, Below w1.heap.size w1 W → Calls Try.prog 10 #[.int .i64 (A + B), .slice a1 m cap1] W fun e w' => ∃ g, W.heap.size ≤ g ∧ e = .returned (.slice (some ⟨g, 0, none⟩) m m) ∧ Reads w' (.slice (some ⟨g, 0, none⟩) m m) Y ∧ Below W.heap.size W w') := fun W hW => by
    have := inOrder_b (A + B) _ L W (hR1.below hW) (by omega) (by omega)
    rw [hm, show max (A + B) 0 = A + B by omega, hY] at this
    exact this
  have HR : Hid (Reads w1 (.slice a1 m cap1) L) := by rw [← hm]; exact hR1
  have HB1 : Hid (Below w.heap.size w w1) := hB1
  rw [hm] at hL hcap1 ⊢
  clear hR1 hm1 hm hLr hLp hA hB hX hY hB1
  have hI1 := HI.out w1 (Below.refl _ _)
  go_upto_region 4 with (first
    | (go_at_call 19; refine (within_any _ _ _ (by omega) (by omega) (by omega) (by omega) _).mono ?_; rintro e w' ⟨rfl, hw'⟩; have hw' := hw'.symm; subst hw'; (first | rw [HA.out] | rw [HBb.out]))
    | (go_at_call_of 10 (Value.int IntKind.i64 A); refine hI1.mono ?_; rintro e w2 ⟨gx, _, rfl, rx, b2⟩; have hI2 := HI2.out _ b2)
    | (go_at_call 10; refine hI2.mono ?_; rintro e w3 ⟨gy, _, rfl, ry, b3⟩))
  have b13 := below_then b2 b3
  have HB3 : Hid (Below w.heap.size w w3) := below_then HB1.out b13
  have HRX : Hid (Reads w3 (.slice (some ⟨gx, 0, none⟩) m m) X) := rx.below b3
  have HRY : Hid (Reads w3 (.slice (some ⟨gy, 0, none⟩) m m) Y) := ry
  have HRC : Hid (Reads w3 (.slice a1 m cap1) L) := HR.out.below b13
  clear hI1 hI2 b2 b3 b13 rx ry HI HI2 HR HB1 HA HBb
  go_wp2
  go_loopw [52] (fun i wr => ∃ k : Nat, k ≤ m ∧ i = .int .i64 k ∧ ∃ q, wr = w3.drewN q) (fun i _ => m - (intOf i).toNat)
  case atStart => exact ⟨0, Nat.zero_le _, rfl, 0, rfl⟩
  case round =>
    obtain ⟨k, hk, rfl, q, rfl⟩ := hrel
    by_cases hlt : k < m
    · obtain ⟨_, _, ex, hx⟩ := HRX.out.cellAt k (by rw [HXl.out.2.1]; exact hlt)
      obtain ⟨_, _, ey, hy⟩ := HRY.out.cellAt k (by rw [HXl.out.2.2]; exact hlt)
      simp only [Option.some.injEq, Addr.mk.injEq] at ex ey
      rw [← ex.1, ← ex.2.1, Nat.zero_add] at hx
      rw [← ey.1, ← ey.2.1, Nat.zero_add] at hy
      have p1 := (HP.out k hlt).1
      clear ex ey
      generalize X.getD k 0 = x at *
      generalize Y.getD k 0 = y at *
      have d1 : decide (y < x) = false := by simp; omega
      have l0 : (0 : Int) ≤ (k : Int) := by omega
      have l1 : (k : Int) < (m : Int) := by omega
      clear p1 HZ HM hi hz0 hz1 hz2 HRC
      go_wp2
      go_quiet (fail)
      go_wp2
      go_roundw
      case rel => exact ⟨k + 1, by omega, by go_num, _, rfl⟩
      case measure => simp [intOf]; omega
    · obtain rfl : k = m := by omega
      refine wp_letter (fun wx => Below w3.heap.size w3 wx) (below_draws (Below.refl _ _) q) ?_
      rintro W bW
      have HBW : Hid (Below w.heap.size w W) := below_then HB3.out bW
      have HWX : Hid (Reads W (.slice (some ⟨gx, 0, none⟩) k k) X) := HRX.out.below bW
      have HWC : Hid (Reads W (.slice a1 k cap1) L) := HRC.out.below bW
      clear HRX HRY HRC HB3 bW
      by_cases hk0 : k = 0
      · subst hk0
        have hB := HBW.out
        have hp := pro_b A _ [] W (reads_nil W) (by simp)
        simp only [List.length_nil] at hp
        clear HP HZ HM HXl HWX HWC HBW
        go_wp2_with (first
          | (go_at_call 11; refine hp.mono ?_; rintro e w4 ⟨g4, _, rfl, r4, b4⟩)
          | (go_at_call 3; refine (shareRuns_any _).mono ?_; rintro e w5 ⟨rfl, b5⟩))
        go_ret
        exact ⟨rfl, below_then (below_then hB b4) b5⟩
      · obtain ⟨K, hK⟩ : ∃ K : Nat, 0 + at0 % ((k : Int) - 1 - 0 + 1) = (K : Int) := Int.eq_ofNat_of_zero_le (by have := Int.emod_nonneg at0 (show (k : Int) - 1 - 0 + 1 ≠ 0 by omega); omega)
        have hKk : K < k := by have := Int.emod_lt_of_pos at0 (show 0 < (k : Int) - 1 - 0 + 1 by omega); omega
        have HK : Hid (0 + at0 % ((k : Int) - 1 - 0 + 1) = (K : Int)) := hK
        obtain ⟨b, off, rfl, hcK⟩ := HWC.out.cellAt K (by rw [HXl.out.1]; exact hKk)
        obtain ⟨_, c0, c1⟩ := HP.out K hKk
        have hZ := HZ.out K
        obtain ⟨C, hC⟩ : ∃ C, L.getD K 0 = C := ⟨_, rfl⟩
        rw [hC] at hcK c0 c1 hZ
        obtain ⟨p, hp⟩ : ∃ p, 0 + cut % (C - 0 + 1) = p := ⟨_, rfl⟩
        have p0 : 0 ≤ p := by have := Int.emod_nonneg cut (show C - 0 + 1 ≠ 0 by omega); omega
        have p1 : p ≤ C := by have := Int.emod_lt_of_pos cut (show 0 < C - 0 + 1 by omega); omega
        have HPp : Hid (0 + cut % (C - 0 + 1) = p) := hp
        have hZ := hZ p hKk p0 p1
        obtain ⟨Z, hZe⟩ : ∃ Z, inOrd A (parted L K p (C - p)) = Z := ⟨_, rfl⟩
        rw [hZe] at hZ
        have HZ2 : Hid (inOrd (max A 0) (parted L K p (C - p)) = Z) := by show _ = _; rw [show max A 0 = A by omega, hZe]
        have HZ3 : Hid (Z.getD K 0 + Z.getD (K + 1) 0 = X.getD K 0 ∧ 0 ≤ Z.getD K 0 ∧ Z.getD K 0 ≤ A ∧ 0 ≤ Z.getD (K + 1) 0 ∧ Z.getD (K + 1) 0 ≤ A) := hZ
        have HPl : Hid ((parted L K p (C - p)).length = k + 1) := by show _ = _; rw [parted_length L K _ _ (by rw [HXl.out.1]; exact hKk), HXl.out.1]
        have HMk := HM.out K hKk
        have HMK : Hid (proL A (L.set K (-1)) = List.replicate k 0) := HMk
        clear hK hp hC hZ hZe HZ HP HM HMk
        go_upto_region 16 with (first
          | (go_at_call 19; refine (within_any _ _ _ (by omega) (by omega) (by omega) (by omega) _).mono ?_; rintro e w' ⟨rfl, hw'⟩; have hw' := hw'.symm; subst hw'; (first | rw [HK.out] | rw [HPp.out])))
        have HWT : Hid (Reads W (.slice (some ⟨b, off, none⟩) K cap1) (L.take K)) := HWC.out.take K (by omega)
        obtain ⟨D, hD⟩ : ∃ D, (if cap1 = K + 1 then some (⟨b, off, none⟩ : Addr) else some ⟨b, off + (K + 1), none⟩) = D := ⟨_, rfl⟩
        have HWD : Hid (Reads W (.slice D (k - (K + 1)) (cap1 - (K + 1))) (L.drop (K + 1))) := HWC.out.drop (K + 1) (by omega) D hD.symm
        have hDn : Hid (D ≠ none) := by
          show _ ≠ _
          rw [← hD]
          split <;> simp
        have HL1 : Hid ((L.take K).length = K ∧ (L.drop (K + 1)).length = k - (K + 1)) := ⟨by rw [List.length_take, HXl.out.1]; omega, by rw [List.length_drop, HXl.out.1]⟩
        have cW : ∀ wx, Below W.heap.size W wx → wx.cell? ⟨b, off + K, none⟩ = some (.int .i64 C) := fun wx bx => cell_keep bx hcK
        have HcW : Hid (∀ wx, Below W.heap.size W wx → wx.cell? ⟨b, off + K, none⟩ = some (.int .i64 C)) := cW
        have k1 : (0 : Int) ≤ (K : Int) := by omega
        have k2 : (K : Int) ≤ (cap1 : Int) := by omega
        have k3 : (0 : Int) ≤ (K : Int) + 1 := by omega
        have k4 : (K : Int) + 1 ≤ (k : Int) := by omega
        have k5 : (K : Int) < (k : Int) := by omega
        have e1 : IntKind.i64.wrap ((K : Int) + 1) = (K : Int) + 1 := wrap_in _ (by omega) (by omega)
        have e2 : IntKind.i64.wrap (C - p) = C - p := wrap_in _ (by omega) (by omega)
        have O1 : Hid (((W.alloc (.cells #[.int .i64 p, .int .i64 (C - p)] 3)).alloc (.cells #[] 3)).drew.ownsRow W.heap.size 3 1 (.slice (some ⟨W.heap.size + 1, 0, none⟩) 0 0) 0 []) := by
          have := (World.ownsRow_lit (base := W.heap.size) (e := 3) (size := 1) (W.alloc (.cells #[.int .i64 p, .int .i64 (C - p)] 3)) #[] 0 (by simp) (by unfold maxLen; omega) rfl).drew
          unfold Hid
          simpa using this
        have O2 : Hid (((W.alloc (.cells #[] 3)).alloc (.cells #[.int .i64 p, .int .i64 (C - p)] 3)).drew.ownsRow W.heap.size 3 1 (.slice (some ⟨W.heap.size, 0, none⟩) 0 0) 0 []) := ((World.ownsRow_lit (base := W.heap.size) (e := 3) (size := 1) W #[] 0 (Nat.le_refl _) (by unfold maxLen; omega) rfl).alloc _).drew
        have O3 : Hid ((W.alloc (.cells #[] 3)).drew.ownsRow W.heap.size 3 1 (.slice (some ⟨W.heap.size, 0, none⟩) 0 0) 0 []) := (World.ownsRow_lit (base := W.heap.size) (e := 3) (size := 1) W #[] 0 (Nat.le_refl _) (by unfold maxLen; omega) rfl).drew
        have BB1 : Hid (Below W.heap.size W ((W.alloc (.cells #[.int .i64 p, .int .i64 (C - p)] 3)).alloc (.cells #[] 3)).drew) := (below_alloc (below_alloc (Below.refl _ _) _) _).drew
        have BB2 : Hid (Below W.heap.size W ((W.alloc (.cells #[] 3)).alloc (.cells #[.int .i64 p, .int .i64 (C - p)] 3)).drew) := (below_alloc (below_alloc (Below.refl _ _) _) _).drew
        have BB3 : Hid (Below W.heap.size W (W.alloc (.cells #[] 3)).drew) := (below_alloc (Below.refl _ _) _).drew
        have R1 : Hid (Reads ((W.alloc (.cells #[.int .i64 p, .int .i64 (C - p)] 3)).alloc (.cells #[] 3)).drew (.slice (some ⟨W.heap.size, 0, none⟩) 2 2) [p, C - p]) := ((reads_two W p (C - p)).below ((Below.refl _ _).alloc (Nat.le_refl _) _)).below (Below.refl _ _).drew
        have R2 : Hid (Reads ((W.alloc (.cells #[] 3)).alloc (.cells #[.int .i64 p, .int .i64 (C - p)] 3)).drew (.slice (some ⟨W.heap.size + 1, 0, none⟩) 2 2) [p, C - p]) := by
          have := (reads_two (W.alloc (.cells #[] 3)) p (C - p)).below (Below.refl _ _).drew
          unfold Hid
          simpa using this
        have SS1 : Hid (∀ wx, Below W.heap.size W wx → Src wx (.slice (some ⟨b, off, none⟩) K cap1) K ((L.take K).map (Value.int .i64))) := fun wx bx => by
          have h := (HWT.out.below bx).src (fun c h => by simp at h)
          rw [HL1.out.1] at h
          exact h
        have SS3 : Hid (∀ wx, Below W.heap.size W wx → Src wx (.slice D (k - (K + 1)) (cap1 - (K + 1))) (k - (K + 1)) ((L.drop (K + 1)).map (Value.int .i64))) := fun wx bx => by
          have h := (HWD.out.below bx).src (fun c h => by simp only [Value.slice.injEq] at h; exact absurd h.1 hDn.out)
          rw [HL1.out.2] at h
          exact h
        clear HWT HWD hcK
        go_cut [19] (fun v wx => Reads wx v (parted L K p (C - p)) ∧ Below W.heap.size W wx)
        case first =>
          clear HXl HWX HWC HBW HZ2 HZ3 HPl HMK HK HPp
          go_region_held3 (fun wx => Below W.heap.size W wx ∧ wx.cell? ⟨b, off + K, none⟩ = some (.int .i64 C))
            (((try go_split_ands); refine held (cW _) ?_; repeat (first | with_reducible assumption | with_reducible exact B3.out | with_reducible exact B2.out | with_reducible exact B1.out | with_reducible refine Below.drew ?_ | with_reducible refine below_alloc ?_ _ | with_reducible exact Below.refl _ _)))
            (first
            | ((refine step_append_src (by rfl) (.tmp 86) (.tmp 89) 23 (by rfl) W.heap.size 3 i0 (.int .i64 0) 1 8 Try.underlying23 hi hz0 hz1 hz2 rfl (by decide) (.slice (some ⟨W.heap.size, 0, none⟩) 0 0) 0 [] (by rfl) (by first | with_reducible exact O3.out) (.slice (some ⟨b, off, none⟩) K cap1) K ((L.take K).map (Value.int .i64)) (by rfl) (SS1.out _ (by first | with_reducible exact BB3.out)) (by rw [List.length_map, HL1.out.1, Nat.mul_one]) (ints_oneCell' _) (by unfold maxLen; omega) (by omega) (Below.size (by first | with_reducible exact BB3.out)) ?_; intro v1 x1 o1 g1 l1; have B1 : Hid (Below W.heap.size W x1) := below_grown (by first | with_reducible exact BB3.out) g1 (fun k h => by simp [Value.ownBlock] at h; omega); have Q1 : Hid (x1.ownsRow W.heap.size 3 1 v1 K ((L.take K).map (Value.int .i64))) := by { have := o1; rw [Nat.zero_add, List.nil_append] at this; exact this }; skip; clear o1 g1 l1))
            | ((refine step_append_src (by rfl) (.tmp 86) (.tmp 89) 23 (by rfl) W.heap.size 3 i0 (.int .i64 0) 1 8 Try.underlying23 hi hz0 hz1 hz2 rfl (by decide) (.slice (some ⟨W.heap.size, 0, none⟩) 0 0) 0 [] (by rfl) (by first | with_reducible exact O2.out) (.slice (some ⟨b, off, none⟩) K cap1) K ((L.take K).map (Value.int .i64)) (by rfl) (SS1.out _ (by first | with_reducible exact BB2.out)) (by rw [List.length_map, HL1.out.1, Nat.mul_one]) (ints_oneCell' _) (by unfold maxLen; omega) (by omega) (Below.size (by first | with_reducible exact BB2.out)) ?_; intro v1 x1 o1 g1 l1; have B1 : Hid (Below W.heap.size W x1) := below_grown (by first | with_reducible exact BB2.out) g1 (fun k h => by simp [Value.ownBlock] at h; omega); have Q1 : Hid (x1.ownsRow W.heap.size 3 1 v1 K ((L.take K).map (Value.int .i64))) := by { have := o1; rw [Nat.zero_add, List.nil_append] at this; exact this }; have RB2 := Reads.grown R2.out g1 (by simp [Value.ownBlock]); clear o1 g1 l1))
            | ((refine step_append_src (by rfl) (.tmp 86) (.tmp 89) 23 (by rfl) W.heap.size 3 i0 (.int .i64 0) 1 8 Try.underlying23 hi hz0 hz1 hz2 rfl (by decide) (.slice (some ⟨W.heap.size + 1, 0, none⟩) 0 0) 0 [] (by rfl) (by first | with_reducible exact O1.out) (.slice (some ⟨b, off, none⟩) K cap1) K ((L.take K).map (Value.int .i64)) (by rfl) (SS1.out _ (by first | with_reducible exact BB1.out)) (by rw [List.length_map, HL1.out.1, Nat.mul_one]) (ints_oneCell' _) (by unfold maxLen; omega) (by omega) (Below.size (by first | with_reducible exact BB1.out)) ?_; intro v1 x1 o1 g1 l1; have B1 : Hid (Below W.heap.size W x1) := below_grown (by first | with_reducible exact BB1.out) g1 (fun k h => by simp [Value.ownBlock] at h; omega); have Q1 : Hid (x1.ownsRow W.heap.size 3 1 v1 K ((L.take K).map (Value.int .i64))) := by { have := o1; rw [Nat.zero_add, List.nil_append] at this; exact this }; have RB1 := Reads.grown R1.out g1 (by simp [Value.ownBlock]); clear o1 g1 l1))
            | ((refine step_append_src (by rfl) (.tmp 90) (.tmp 98) 23 (by rfl) W.heap.size 3 i0 (.int .i64 0) 1 8 Try.underlying23 hi hz0 hz1 hz2 rfl (by decide) v1 K ((L.take K).map (Value.int .i64)) (by rfl) (Q1.out) (.slice (some ⟨W.heap.size, 0, none⟩) 2 2) 2 [.int .i64 p, .int .i64 (C - p)] (by rfl) (RB1.src (fun c h => by simp at h)) rfl (by simp; exact ⟨rfl, rfl⟩) (by unfold maxLen; omega) (by omega) (Below.size (B1.out)) ?_; intro v2 x2 o2 g2 l2; have B2 : Hid (Below W.heap.size W x2) := below_grown (B1.out) g2 (fun k h => (Q1.out.lt k h).1); have Q2 : Hid (x2.ownsRow W.heap.size 3 1 v2 (K + 2) ((L.take K ++ [p, C - p]).map (Value.int .i64))) := by { rw [List.map_append]; exact o2 }; clear o2 g2 l2))
            | ((refine step_append_src (by rfl) (.tmp 90) (.tmp 98) 23 (by rfl) W.heap.size 3 i0 (.int .i64 0) 1 8 Try.underlying23 hi hz0 hz1 hz2 rfl (by decide) v1 K ((L.take K).map (Value.int .i64)) (by rfl) (Q1.out) (.slice (some ⟨W.heap.size + 1, 0, none⟩) 2 2) 2 [.int .i64 p, .int .i64 (C - p)] (by rfl) (RB2.src (fun c h => by simp at h)) rfl (by simp; exact ⟨rfl, rfl⟩) (by unfold maxLen; omega) (by omega) (Below.size (B1.out)) ?_; intro v2 x2 o2 g2 l2; have B2 : Hid (Below W.heap.size W x2) := below_grown (B1.out) g2 (fun k h => (Q1.out.lt k h).1); have Q2 : Hid (x2.ownsRow W.heap.size 3 1 v2 (K + 2) ((L.take K ++ [p, C - p]).map (Value.int .i64))) := by { rw [List.map_append]; exact o2 }; clear o2 g2 l2))
            | ((refine step_append_src (by rfl) (.tmp 90) (.tmp 98) 23 (by rfl) W.heap.size 3 i0 (.int .i64 0) 1 8 Try.underlying23 hi hz0 hz1 hz2 rfl (by decide) v1 K ((L.take K).map (Value.int .i64)) (by rfl) (Q1.out.alloc _) (.slice (some ⟨x1.heap.size, 0, none⟩) 2 2) 2 [.int .i64 p, .int .i64 (C - p)] (by rfl) ((reads_two x1 p (C - p)).src (fun c h => by simp at h)) rfl (by simp; exact ⟨rfl, rfl⟩) (by unfold maxLen; omega) (by omega) (Below.size (below_alloc B1.out _)) ?_; intro v2 x2 o2 g2 l2; have B2 : Hid (Below W.heap.size W x2) := below_grown (below_alloc B1.out _) g2 (fun k h => (Q1.out.lt k h).1); have Q2 : Hid (x2.ownsRow W.heap.size 3 1 v2 (K + 2) ((L.take K ++ [p, C - p]).map (Value.int .i64))) := by { rw [List.map_append]; exact o2 }; clear o2 g2 l2))
            | ((refine step_append_src (by rfl) (.tmp 99) (.tmp 103) 23 (by rfl) W.heap.size 3 i0 (.int .i64 0) 1 8 Try.underlying23 hi hz0 hz1 hz2 rfl (by decide) v2 (K + 2) ((L.take K ++ [p, C - p]).map (Value.int .i64)) (by rfl) Q2.out (.slice D (k - (K + 1)) (cap1 - (K + 1))) (k - (K + 1)) ((L.drop (K + 1)).map (Value.int .i64)) (by rfl) (SS3.out _ B2.out) (by rw [List.length_map, HL1.out.2, Nat.mul_one]) (ints_oneCell' _) (by unfold maxLen; omega) (by omega) B2.out.size ?_; intro v3 x3 o3 g3 l3; have B3 : Hid (Below W.heap.size W x3) := below_grown B2.out g3 (fun k h => (Q2.out.lt k h).1); have R3 : Hid (Reads x3 v3 (parted L K p (C - p))) := by { refine own_reads (base := W.heap.size) (n := K + 2 + (k - (K + 1))) ?_; unfold parted; rw [List.map_append]; exact o3 }; clear o3 g3 l3)))
          all_goals
            go_wp2
            go_meet
            case rel => exact ⟨R3.out, B3.out⟩
        case rest =>
        obtain ⟨hRP, hBc⟩ := hcut
        clear SS1 SS3 R1 R2 BB1 BB2 BB3 O1 O2 O3 HcW cW hDn hD HL1 HK HPp e2
        obtain ⟨aP, capP, eP, hcapP, _, hzz⟩ := id hRP
        clear hzz
        rw [HPl.out] at eP hcapP
        subst eP
        have hin : Calls Try.prog 10 #[.int .i64 A, .slice aP (k + 1) capP] wc fun e w' => ∃ g, wc.heap.size ≤ g ∧ e = .returned (.slice (some ⟨g, 0, none⟩) (k + 1) (k + 1)) ∧ Reads w' (.slice (some ⟨g, 0, none⟩) (k + 1) (k + 1)) Z ∧ Below wc.heap.size wc w' := by
          have := inOrder_b A _ _ wc hRP (by rw [HPl.out]; omega) (by omega)
          rw [HPl.out, HZ2.out] at this
          exact this
        have HBc : Hid (Below W.heap.size W wc) := hBc
        clear hRP hBc
        go_upto_region 18 with (go_at_call 10; refine hin.mono ?_; rintro e w5 ⟨gz, _, rfl, rz, b5⟩)
        have bW5 := below_then HBc.out b5
        have HZl : Hid (Z.length = k + 1) := by show _ = _; rw [← HZ2.out, inOrd_length, HPl.out]
        obtain ⟨_, _, ez, hzK⟩ := rz.cellAt K (by rw [HZl.out]; omega)
        obtain ⟨_, _, ez', hzK1⟩ := rz.cellAt (K + 1) (by rw [HZl.out]; omega)
        obtain ⟨_, _, ex, hxK⟩ := (HWX.out.below bW5).cellAt K (by rw [HXl.out.2.1]; exact hKk)
        simp only [Option.some.injEq, Addr.mk.injEq] at ez ez' ex
        rw [← ez.1, ← ez.2.1, Nat.zero_add] at hzK
        rw [← ez'.1, ← ez'.2.1, Nat.zero_add] at hzK1
        rw [← ex.1, ← ex.2.1, Nat.zero_add] at hxK
        obtain ⟨z1, z2, z3, z4, z5⟩ := HZ3.out
        rw [← z1] at hxK
        have HRc5 : Hid (Reads w5 (.slice (some ⟨b, off, none⟩) k cap1) L) := HWC.out.below bW5
        have HB5 : Hid (Below w.heap.size w w5) := below_then HBW.out bW5
        clear ez ez' ex rz b5 bW5 hin HWX HWC HBW HBc z1 HZ3 HZ2 HZl HPl
        generalize Z.getD K 0 = s at *
        generalize Z.getD (K + 1) 0 = s' at *
        have e3 : IntKind.i64.wrap ((k : Int) + 1) = (k : Int) + 1 := wrap_in _ (by omega) (by omega)
        have e4 : IntKind.i64.wrap (s + s') = s + s' := wrap_in _ (by omega) (by omega)
        have k6 : (K : Int) < (k : Int) + 1 := by omega
        have k7 : (K : Int) + 1 < (k : Int) + 1 := by omega
        go_quiet (fail)
        go_upto_region 20 with fail
        refine wp_letter (fun wx => Below w5.heap.size w5 wx) (below_draws (Below.refl _ _) nq) ?_
        rintro V bV
        have HBV : Hid (Below w.heap.size w V) := below_then HB5.out bV
        have HRV : Hid (Reads V (.slice (some ⟨b, off, none⟩) k cap1) L) := HRc5.out.below bV
        clear bV HB5 HRc5 hzK hzK1 hxK e1 e3 e4
        have O0 : Hid ((V.alloc (.cells #[] 3)).ownsRow V.heap.size 3 1 (.slice (some ⟨V.heap.size, 0, none⟩) 0 0) 0 []) := World.ownsRow_lit (base := V.heap.size) (e := 3) (size := 1) V #[] 0 (Nat.le_refl _) (by unfold maxLen; omega) rfl
        have S0 : Hid (Src (V.alloc (.cells #[] 3)) (.slice (some ⟨b, off, none⟩) k cap1) k (L.map (Value.int .i64))) := by
          have h := (HRV.out.below ((Below.refl _ _).alloc (Nat.le_refl _) (.cells #[] 3))).src (fun c h => by simp at h)
          rw [HXl.out.1] at h
          exact h
        have L0 : Hid ((L.map (Value.int .i64)).length = k * 1) := by show _ = _; rw [List.length_map, HXl.out.1, Nat.mul_one]
        have M0 : Hid (0 + k ≤ maxLen) := by show _ ≤ _; unfold maxLen; omega
        have N0 : Hid ((0 + k) * 8 ≤ 140737488355328) := by show _ ≤ _; omega
        have P0 : Hid (V.heap.size ≤ (V.alloc (.cells #[] 3)).heap.size) := by show _ ≤ _; simp
        go_upto_region 21 with (at_builtin; refine wpList_append_src rfl (.tmp 131) (.tmp 132) 23 rfl V.heap.size 3 i0 (.int .i64 0) 1 8 Try.underlying23 hi hz0 hz1 hz2 rfl (by decide) (.slice (some ⟨V.heap.size, 0, none⟩) 0 0) 0 [] rfl O0.out (.slice (some ⟨b, off, none⟩) k cap1) k (L.map (Value.int .i64)) rfl S0.out L0.out (ints_oneCell' _) M0.out N0.out P0.out ?_; intro v6 w6 o6 g6 l6)
        rw [Nat.zero_add, List.nil_append] at o6
        have b6 : Below V.heap.size V w6 := below_grown (below_alloc (Below.refl _ _) _) g6 (fun k h => by simp [Value.ownBlock] at h; omega)
        have HB6 : Hid (Below w.heap.size w w6) := below_then HBV.out b6
        clear g6 l6 O0 S0 L0 M0 N0 P0
        rcases o6.2 with ⟨_, h0⟩ | ⟨gm, cpm, cur, rfl, hgm, hcur, hcpm, _⟩
        · exact absurd h0 hk0
        have hst := (o6.stored K (.int .i64 (-1))).1
        have hcm := o6.cellAt K (by omega)
        have hfm := o6.frozenAt K
        have hK2 : K < (L.map (Value.int .i64)).length := by rw [List.length_map, HXl.out.1]; exact hKk
        rw [List.getElem?_eq_getElem hK2] at hcm
        generalize (L.map (Value.int .i64))[K] = oldv at hcm
        rw [← List.map_set] at hst
        have HRm : Hid (Reads (w6.setCell ⟨gm, K, none⟩ (.int .i64 (-1))) (.slice (some ⟨gm, 0, none⟩) k cpm) (L.set K (-1))) := own_reads hst
        have HB7 : Hid (Below w.heap.size w (w6.setCell ⟨gm, K, none⟩ (.int .i64 (-1)))) := HB6.out.setCell (p := ⟨gm, K, none⟩) (by simp only; have := HBV.out.size; omega) _
        clear hst hcur o6 b6 HB6 HBV HRV hK2
        go_upto_region 22 with fail
        refine wp_letter (fun wx => Below w.heap.size w wx ∧ Reads wx (.slice (some ⟨gm, 0, none⟩) k cpm) (L.set K (-1))) ⟨HB7.out, HRm.out⟩ ?_
        rintro w7 ⟨b7, r7⟩
        clear hcm hfm HB7 HRm
        have HPm : Hid (∀ wx, Below w7.heap.size w7 wx → Calls Try.prog 11 #[.int .i64 A, .slice (some ⟨gm, 0, none⟩) k cpm] wx fun e w' => ∃ g, wx.heap.size ≤ g ∧ e = .returned (.slice (some ⟨g, 0, none⟩) k k) ∧ Reads w' (.slice (some ⟨g, 0, none⟩) k k) (List.replicate k 0) ∧ Below wx.heap.size wx w') := fun wx bx => by
          have := pro_b A _ _ wx (r7.below bx) (by rw [List.length_set, HXl.out.1]; omega)
          rw [List.length_set, HXl.out.1, HMK.out] at this
          exact this
        have HSm : Hid (∀ (wx : World) (g : Nat), Reads wx (.slice (some ⟨g, 0, none⟩) k k) (List.replicate k 0) → Calls Try.prog 18 #[.slice (some ⟨g, 0, none⟩) k k] wx fun e w' => e = .returned (.tuple #[.int .i64 0, .bool true]) ∧ w' = wx) := fun wx g h => by
          have := sum_any _ _ wx h
          rw [sumFrom_total (List.replicate k 0) (fun x hx => by rw [List.eq_of_mem_replicate hx]; omega) (by rw [replicate_sum]; decide), replicate_sum] at this
          exact this
        have hp1 := HPm.out w7 (Below.refl _ _)
        clear r7
        go_upto_region 23 with (first
          | (go_at_call 11; refine hp1.mono ?_; rintro e w8 ⟨g8, _, rfl, r8, b8⟩; have hs8 := HSm.out _ _ r8)
          | (go_at_call 18; refine hs8.mono ?_; rintro e w' ⟨rfl, hw'⟩; have hw' := hw'.symm; subst hw'))
        have hp2 := HPm.out w8 b8
        have hB8 := below_then b7 b8
        clear hp1 hs8 r8 b8 HPm HSm HMK HXl b7
        go_wp2_with (first
          | (go_at_call 11; refine hp2.mono ?_; rintro e w9 ⟨g9, _, rfl, r9, b9⟩)
          | (go_at_call 3; refine (shareRuns_any _).mono ?_; rintro e w10 ⟨rfl, b10⟩))
        go_ret
        exact ⟨rfl, below_then (below_then hB8 b9) b10⟩
end Go.Proofs.Ytmchjfiaphkpdaa
