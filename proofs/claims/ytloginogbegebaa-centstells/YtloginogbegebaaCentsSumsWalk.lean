/-
  The walk of CentsSums.
-/
import Derived.Test.YtloginogbegebaaCentsRoundWalk
import Derived.Test.YtloginogbegebaaMem
import Derived.Deep.RegionWith
namespace Go.Proofs.Ytloginogbegebaa
open Go.RowKit

theorem Try.info_int : (Try.prog.info? 3).map (fun i => (i.zero, i.size, i.bytes)) = some (some (.int .i64 0), 1, 8) := by kernel_rfl

/-- The numbers that the law makes of the first k. -/
def own50 (zs : List Int) (k : Nat) : List Int := (zs.take k).map fun x => x % 1125899906842625

theorem own50_next (zs : List Int) (k : Nat) (h : k < zs.length) : own50 zs (k + 1) = own50 zs k ++ [zs.getD k 0 % 1125899906842625] := by
  unfold own50
  rw [List.take_succ_eq_append_getElem h, List.map_append]
  simp only [List.map_cons, List.map_nil, List.getD_eq_getElem?_getD, List.getElem?_eq_getElem h, Option.getD_some]
theorem own50_length (zs : List Int) (k : Nat) (h : k ≤ zs.length) : (own50 zs k).length = k := by simp [own50]; omega

theorem src_one (w : World) (a : Int) : Src (w.alloc (.cells #[.int .i64 a] 3)) (.slice (some ⟨w.heap.size, 0, none⟩) 1 1) 1 [.int .i64 a] :=
  (reads_one w a).src (fun c h => by simp at h)

theorem own50_range (zs : List Int) (k : Nat) : ∀ x ∈ own50 zs k, 0 ≤ x ∧ x ≤ 1125899906842624 := by
  intro x hx
  obtain ⟨y, _, rfl⟩ := List.mem_map.1 hx
  show 0 ≤ y % 1125899906842625 ∧ y % 1125899906842625 ≤ 1125899906842624
  omega

theorem src_none {w : World} : Src w (.slice none 0 0) 0 [] := ⟨none, 0, rfl, fun _ => ⟨rfl, rfl⟩, fun a h => by simp at h⟩

theorem sums_parts (L : List Int) (k : Nat) (hl : L.length ≤ 30) (hr : ∀ x ∈ L, 0 ≤ x ∧ x ≤ 1125899906842624) :
    sumFrom L 0 = some L.sum ∧ sumFrom (L.take k) 0 = some (L.take k).sum ∧ sumFrom (L.drop k) 0 = some (L.drop k).sum ∧ sumFrom [(L.drop k).sum, (L.take k).sum] 0 = some L.sum := by
  have ht : ∀ x ∈ L.take k, 0 ≤ x ∧ x ≤ 1125899906842624 := fun x hx => hr x (List.mem_of_mem_take hx)
  have hd : ∀ x ∈ L.drop k, 0 ≤ x ∧ x ≤ 1125899906842624 := fun x hx => hr x (List.mem_of_mem_drop hx)
  have s1 := sum_range 1125899906842624 (by omega) L hr
  have s2 := sum_range 1125899906842624 (by omega) (L.take k) ht
  have s3 := sum_range 1125899906842624 (by omega) (L.drop k) hd
  have e : L.sum = (L.take k).sum + (L.drop k).sum := by
    conv => lhs; rw [← List.take_append_drop k L]
    rw [List.sum_append]
  have b1 : L.sum ≤ 30 * 1125899906842624 := by
    have : (L.length : Int) * 1125899906842624 ≤ 30 * 1125899906842624 := by omega
    omega
  refine ⟨?_, ?_, ?_, ?_⟩
  · rw [sumFrom_ok L 0 (fun x hx => (hr x hx).1) (by omega), Int.zero_add]
  · rw [sumFrom_ok _ 0 (fun x hx => (ht x hx).1) (by omega), Int.zero_add]
  · rw [sumFrom_ok _ 0 (fun x hx => (hd x hx).1) (by omega), Int.zero_add]
  · rw [sumFrom_ok _ 0 (by intro x hx; simp at hx; omega) (by simp; omega)]
    simp
    omega

theorem least_turned (L : List Int) (k : Nat) : leastL (L.drop k ++ L.take k) = leastL L := by
  by_cases h : L = []
  · subst h; simp
  · symm
    refine leastL_same L _ h (fun x => ?_)
    rw [List.mem_append]
    conv => lhs; rw [← List.take_append_drop k L, List.mem_append]
    exact Or.comm

/-- What is seen of the least as the law goes through the list. -/
def seen (L : List Int) (k : Nat) : Bool := decide (L.length = 0) || (L.take k).any (· == leastL L)

theorem seen_next (L : List Int) (k : Nat) (h : k < L.length) : seen L (k + 1) = (seen L k || L.getD k 0 == leastL L) := by
  unfold seen
  rw [List.take_succ_eq_append_getElem h, List.any_append]
  simp [h, Bool.or_assoc]

theorem least_in (L : List Int) : seen L L.length = true ∧ ∀ x ∈ L, leastL L ≤ x := by
  by_cases h : L = []
  · subst h; simp [seen]
  · obtain ⟨a, b⟩ := leastL_spec L h
    refine ⟨?_, b⟩
    simp only [seen, List.take_length, Bool.or_eq_true]
    right
    exact List.any_eq_true.2 ⟨_, a, by simp⟩

set_option maxRecDepth 100000 in
set_option maxHeartbeats 2000000 in
theorem centsSums_any (a : Option Addr) (len cap : Nat) (zs : List Int) (cut : Int) (w : World) (hrow : Row .i64 w a len cap zs) (_w1 : (Lit.int .i64 cut).wf = true) :
    Calls Try.prog 6 #[.slice a len cap, .int .i64 cut] w fun e w' => e = .returned (.bool true) ∧ Below w.heap.size w w' := by
  obtain ⟨i0, hi, hz0, hz1, hz2⟩ := info_parts Try.info_int
  obtain ⟨hlen, hm, hzl, hc⟩ := hrow.cells
  clear hrow _w1
  unfold maxLen at hm
  go_enter Try.func6, Try.ntmps6
  go_upto_block 0 with fail
  go_cut [5, 6] (fun v i wx => ∃ L : List Int, L.length ≤ 30 ∧ (∀ x ∈ L, 0 ≤ x ∧ x ≤ 1125899906842624) ∧ wx.ownsRow w.heap.size 3 1 v L.length (L.map (Value.int .i64)) ∧ Below w.heap.size w wx)
  case first =>
    go_wp2_with fail
    go_loopw [5, 6] (fun v i wr => ∃ k : Nat, k ≤ len ∧ k ≤ 30 ∧ i = .int .i64 k ∧ wr.ownsRow w.heap.size 3 1 v k ((own50 zs k).map (Value.int .i64)) ∧ Below w.heap.size w wr) (fun _ i _ => len - (intOf i).toNat)
    case atStart => exact ⟨0, Nat.zero_le _, Nat.zero_le _, rfl, World.ownsRow_nil _ _ _ _, Below.refl _ _⟩
    case round =>
      obtain ⟨k, hk, hk30, rfl, hown, hbel⟩ := hrel
      have hfin := own50_range zs k
      have hfl := own50_length zs k (by omega)
      have HF : Hid (∃ L : List Int, L.length ≤ 30 ∧ (∀ x ∈ L, 0 ≤ x ∧ x ≤ 1125899906842624) ∧ wr.ownsRow w.heap.size 3 1 u5 L.length (L.map (Value.int .i64)) ∧ Below w.heap.size w wr) := ⟨own50 zs k, by omega, hfin, by rw [hfl]; exact hown, hbel⟩
      clear hfin hfl
      by_cases hlt : k < len
      · by_cases h30 : k < 30
        · obtain ⟨b, off, rfl, hcell⟩ := hc k hlt
          have hcx : wr.cell? ⟨b, off + k, none⟩ = some (.int .i64 (zs.getD k 0)) := (hbel.cell (cell_block hcell)).trans hcell
          have hnx := own50_next zs k (by omega)
          generalize zs.getD k 0 = x at hcx hnx
          have HN : Hid (own50 zs (k + 1) = own50 zs k ++ [x % 1125899906842625]) := hnx
          clear hc hnx hcell HF
          go_wp2_with (first
            | (go_at_call 16; refine (within_any _ _ _ (by omega) (by omega) (by omega) (by omega) _).mono ?_; rintro e w' ⟨rfl, hw'⟩; subst hw')
            | (at_builtin; refine wpList_append_src rfl (.tmp 30) (.tmp 36) 27 rfl w.heap.size 3 i0 (.int .i64 0) 1 8 Try.underlying27 hi hz0 hz1 hz2 rfl (by decide) _ _ _ rfl (hown.alloc _) _ 1 [.int .i64 (x % 1125899906842625)] rfl (src_one _ _) rfl (by simp; rfl) ?c1 ?c2 ?c3 ?_))
          case c1 => unfold maxLen; omega
          case c2 => omega
          case c3 => have := hbel.size; simp; omega
          intro v' w1 hown' hgrow _
          have hb1 := below_append hbel hown hgrow
          have hown1 : w1.ownsRow w.heap.size 3 1 v' (k + 1) ((own50 zs (k + 1)).map (Value.int .i64)) := by rw [HN.out, List.map_append]; exact hown'
          clear hown hown' hgrow hbel
          go_wp2
          go_roundw
          case rel => exact ⟨k + 1, by omega, by omega, by go_num, hown1, hb1⟩
          case measure => simp [intOf]; omega
        · clear hc hown hbel
          go_wp2
          go_meet
          case rel => exact HF.out
      · clear hc hown hbel
        go_wp2
        go_meet
        case rel => exact HF.out
  case rest =>
  obtain ⟨L, hL30, hLr, hown, hbel⟩ := hcut
  have hreads := own_reads hown
  obtain ⟨n, hn⟩ : ∃ n, L.length = n := ⟨_, rfl⟩
  have hn30 : n ≤ 30 := by omega
  obtain ⟨kn, hkn⟩ := Int.eq_ofNat_of_zero_le (Int.emod_nonneg cut (b := (n : Int) - 0 + 1) (by omega))
  have hkl : kn ≤ n := by
    have := Int.emod_lt_of_pos cut (b := (n : Int) - 0 + 1) (by omega)
    omega
  have HK : Hid (cut % ((n : Int) - 0 + 1) = (kn : Int)) := hkn
  have HS : Hid (sumFrom L 0 = some L.sum ∧ sumFrom (L.take kn) 0 = some (L.take kn).sum ∧ sumFrom (L.drop kn) 0 = some (L.drop kn).sum ∧ sumFrom [(L.drop kn).sum, (L.take kn).sum] 0 = some L.sum) := sums_parts L kn hL30 hLr
  have hin := least_in L
  clear hkn
  rcases hown.2 with ⟨rfl, h0⟩ | ⟨g, cp, cur, rfl, hg, hcur, hcp, hcm, hcs, htk⟩
  · rw [hn] at h0
    subst h0
    obtain rfl : L = [] := List.eq_nil_of_length_eq_zero hn
    obtain rfl : kn = 0 := by omega
    have hr0 : Reads wc (.slice none 0 0) [] := hreads
    clear hreads hown hc hn hLr hL30 hlen hm hzl HS hin
    go_wp2_with fail
    refine (within_any _ _ _ (by omega) (by omega) (by omega) (by omega) _).mono ?_
    rintro e w' ⟨rfl, hw'⟩
    subst hw'
    rw [show (0 : Int) + cut % (0 - 0 + 1) = 0 by omega]
    go_wp2_with fail
    refine (sum_none none 0 _).mono ?_
    rintro e w' ⟨rfl, hw'⟩
    subst hw'
    go_wp2_with fail
    refine (sum_none none 0 _).mono ?_
    rintro e w' ⟨rfl, hw'⟩
    subst hw'
    go_wp2_with fail
    refine (sum_none none 0 _).mono ?_
    rintro e w' ⟨rfl, hw'⟩
    subst hw'
    go_wp2_with fail
    refine (sum_any _ _ _ (reads_two w' 0 0)).mono ?_
    rintro e w2 ⟨rfl, hw2⟩
    rw [show sumFrom [0, 0] 0 = some 0 by decide +kernel]
    have hb2 : Below w'.heap.size w' w2 := by rw [hw2]; exact (Below.refl _ _).alloc (Nat.le_refl _) _
    have hbel2 := below_then hbel hb2
    clear hw2 hb2 hbel
    go_wp2_with fail
    refine (least_none none 0 _).mono ?_
    rintro e w' ⟨rfl, hw'⟩
    subst hw'
    go_wp2_with fail
    go_loop [17, 94] (fun t i => i = .int .i64 0 ∧ t = .bool true) (fun _ _ => 0)
    case atStart => exact ⟨rfl, rfl⟩
    case round =>
      obtain ⟨rfl, rfl⟩ := hrel
      go_upto_region 22 with fail
      have o0 : (w'.alloc (.cells #[] 3)).drew.ownsRow w'.heap.size 3 1 (.slice (some ⟨w'.heap.size, 0, none⟩) 0 0) 0 [] := (World.ownsRow_lit (base := w'.heap.size) (size := 1) w' #[] 0 (Nat.le_refl _) (by unfold maxLen; omega) rfl).drew
      have b0 : Below w'.heap.size w' (w'.alloc (.cells #[] 3)).drew := ((Below.refl _ _).alloc (Nat.le_refl _) _).drew
      have O0 : Hid ((w'.alloc (.cells #[] 3)).drew.ownsRow w'.heap.size 3 1 (.slice (some ⟨w'.heap.size, 0, none⟩) 0 0) 0 []) := o0
      have B0 : Hid (Below w'.heap.size w' (w'.alloc (.cells #[] 3)).drew) := b0
      clear o0 b0
      go_region_held3 (fun _ => True) (trivial) (first
        | ((refine step_append_src (by rfl) (.tmp 110) (.tmp 113) 27 (by rfl) w'.heap.size 3 i0 (.int .i64 0) 1 8 Try.underlying27 hi hz0 hz1 hz2 rfl (by decide) (.slice (some ⟨w'.heap.size, 0, none⟩) 0 0) 0 [] (by rfl) O0.out (.slice none 0 0) 0 [] (by rfl) src_none rfl (by simp) (by unfold maxLen; omega) (by omega) B0.out.size ?_; intro v1 w1 o1 g1 l1; have B1 : Hid (Below w'.heap.size w' w1) := below_grown B0.out g1 (fun k h => by simp [Value.ownBlock] at h; omega); have O1 : Hid (w1.ownsRow w'.heap.size 3 1 v1 0 []) := o1; clear o1 g1 l1))
        | ((refine step_append_src (by rfl) (.tmp 114) (.tmp 117) 27 (by rfl) w'.heap.size 3 i0 (.int .i64 0) 1 8 Try.underlying27 hi hz0 hz1 hz2 rfl (by decide) v1 0 [] (by rfl) O1.out (.slice none 0 0) 0 [] (by rfl) src_none rfl (by simp) (by unfold maxLen; omega) (by omega) B1.out.size ?_; intro v2 w2 o2 g2 l2; have B2 : Hid (Below w'.heap.size w' w2) := below_grown B1.out g2 (fun k h => (O1.out.lt k h).1); have R2 : Hid (Reads w2 v2 []) := own_reads (base := w'.heap.size) (n := 0) o2; clear o2 g2 l2))
        | ((go_at_call_of 10 (v2); refine (least_any v2 _ _ R2.out).mono ?_; rintro e w3 ⟨rfl, hw3⟩; subst hw3; rw [show leastL [] = 1152921504606846976 from rfl]))
        | ((go_at_call 10; refine (least_none none 0 _).mono ?_; rintro e w3 ⟨rfl, hw3⟩; subst hw3))
        | ((go_at_call 3; refine (centsRuns_any _).mono ?_; rintro e w4 ⟨rfl, B4⟩)))
      go_wp2
      go_ret
      exact ⟨rfl, below_then (below_then hbel2 B2.out) B4⟩
  · rw [hn] at hreads hcp ⊢
    have HN : Hid (L.length = n) := hn
    have HR : Hid (∀ x ∈ L, 0 ≤ x ∧ x ≤ 1125899906842624) := hLr
    have HO := hown
    rw [hn] at HO
    have hcell : ∀ i, i < n → wc.cell? ⟨g, i, none⟩ = some (.int .i64 (L.getD i 0)) := fun i hi => by
      obtain ⟨_, _, e, _, _, he | ⟨b', o', e', hc'⟩⟩ := hreads
      · subst he; simp at hn; omega
      · simp only [Value.slice.injEq] at e
        rw [← e.1] at e'
        simp only [Option.some.injEq, Addr.mk.injEq] at e'
        have := hc' i (by omega)
        rw [← e'.1, ← e'.2.1, Nat.zero_add] at this
        exact this
    clear hcur hcs htk hown hc hn hLr hL30 hlen hm hzl
    unfold maxLen at hcm
    have hrt := hreads.take kn hkl
    obtain ⟨A, hA⟩ : ∃ A, (if cp = kn then some (⟨g, 0, none⟩ : Addr) else some ⟨g, kn, none⟩) = A := ⟨_, rfl⟩
    have hrd := hreads.drop kn hkl A (by rw [← hA, Nat.zero_add])
    go_wp2_with fail
    refine (within_any _ _ _ (by omega) (by omega) (by omega) (by omega) _).mono ?_
    rintro e w' ⟨rfl, hw'⟩
    subst hw'
    rw [HK.out]
    go_wp2_with fail
    refine (sum_any _ _ _ hreads).mono ?_
    rintro e w' ⟨rfl, hw'⟩
    subst hw'
    rw [HS.out.1]
    go_wp2_with fail
    refine (sum_any _ _ _ hrt).mono ?_
    rintro e w' ⟨rfl, hw'⟩
    subst hw'
    rw [HS.out.2.1]
    go_wp2_with fail
    refine (sum_any _ _ _ hrd).mono ?_
    rintro e w' ⟨rfl, hw'⟩
    subst hw'
    rw [HS.out.2.2.1]
    go_wp2_with fail
    refine (sum_any _ _ _ (reads_two w' (L.drop kn).sum (L.take kn).sum)).mono ?_
    rintro e w2 ⟨rfl, hw2⟩
    rw [HS.out.2.2.2]
    have hb2 : Below w'.heap.size w' w2 := by rw [hw2]; exact (Below.refl _ _).alloc (Nat.le_refl _) _
    clear hw2
    have hrd2 := hrd.below hb2
    have hrt2 := hrt.below hb2
    have hrs2 := hreads.below hb2
    have hcell2 : ∀ i, i < n → w2.cell? ⟨g, i, none⟩ = some (.int .i64 (L.getD i 0)) := fun i hi => (hb2.cell (cell_block (hcell i hi))).trans (hcell i hi)
    have hbel2 := below_then hbel hb2
    clear hrd hrt hreads hcell hbel hb2 HO
    go_wp2_with fail
    refine (least_any _ _ _ hrs2).mono ?_
    rintro e w' ⟨rfl, hw'⟩
    subst hw'
    go_wp2_with fail
    generalize hM : leastL L = M at hin ⊢
    have HM : Hid (leastL L = M) := hM
    obtain ⟨hin1, hin2⟩ := hin
    have HI : Hid (seen L L.length = true) := hin1
    have HL : Hid (∀ x ∈ L, M ≤ x) := hin2
    have HS0 : Hid (seen L 0 = ((n : Int) == 0)) := by
      show _ = _
      rw [← HN.out, Bool.eq_iff_iff]
      simp [seen]
    clear hM hin1 hin2
    go_loop [17, 94] (fun t i => ∃ k : Nat, k ≤ n ∧ i = .int .i64 k ∧ t = .bool (seen L k)) (fun _ i => n - (intOf i).toNat)
    case atStart => exact ⟨0, Nat.zero_le _, rfl, by rw [HS0.out]⟩
    case round =>
      obtain ⟨k, hk, rfl, rfl⟩ := hrel
      by_cases hlt : k < n
      · have hx := hcell2 k hlt
        have hnx := seen_next L k (by rw [HN.out]; exact hlt)
        have hle : M ≤ L.getD k 0 := HL.out _ (by
          have hk' : k < L.length := by rw [HN.out]; exact hlt
          simp only [List.getD_eq_getElem?_getD, List.getElem?_eq_getElem hk', Option.getD_some]
          exact List.getElem_mem hk')
        rw [HM.out] at hnx
        generalize L.getD k 0 = x at hx hnx hle
        generalize seen L k = t at hnx ⊢
        have HX : Hid (seen L (k + 1) = (t || x == M)) := hnx
        clear hnx hcell2 hrd2 hrt2 hrs2
        cases t
        · go_wp2
          go_round
          case rel => exact ⟨k + 1, by omega, by go_num, by rw [HX.out]; rfl⟩
          case measure => simp [intOf]; omega
        · go_wp2
          go_round
          case rel => exact ⟨k + 1, by omega, by go_num, by rw [HX.out]; rfl⟩
          case measure => simp [intOf]; omega
      · have ht : seen L k = true := by rw [show k = L.length by rw [HN.out]; omega]; exact HI.out
        rw [ht]
        clear ht hcell2
        clear hrs2 HS HK HR
        have k1 : (0 : Int) ≤ (kn : Int) := by omega
        have k2 : (kn : Int) ≤ (cp : Int) := by omega
        go_upto_region 22 with fail
        have o0 : (w'.alloc (.cells #[] 3)).drew.ownsRow w'.heap.size 3 1 (.slice (some ⟨w'.heap.size, 0, none⟩) 0 0) 0 [] := (World.ownsRow_lit (base := w'.heap.size) (size := 1) w' #[] 0 (Nat.le_refl _) (by unfold maxLen; omega) rfl).drew
        have b0 : Below w'.heap.size w' (w'.alloc (.cells #[] 3)).drew := ((Below.refl _ _).alloc (Nat.le_refl _) _).drew
        have s1 := (hrd2.below b0).src (fun c h => by rw [← hA] at h; split at h <;> simp at h)
        have HL1 : Hid ((L.drop kn).length = n - kn) := by show _ = _; rw [List.length_drop, HN.out]
        have HL2 : Hid ((L.take kn).length = kn) := by show _ = _; rw [List.length_take, HN.out]; omega
        rw [HL1.out] at s1
        have S1 : Hid (Src (w'.alloc (.cells #[] 3)).drew (.slice A (n - kn) (cp - kn)) (n - kn) ((L.drop kn).map (Value.int .i64))) := s1
        have O0 : Hid ((w'.alloc (.cells #[] 3)).drew.ownsRow w'.heap.size 3 1 (.slice (some ⟨w'.heap.size, 0, none⟩) 0 0) 0 []) := o0
        have B0 : Hid (Below w'.heap.size w' (w'.alloc (.cells #[] 3)).drew) := b0
        have RT : Hid (Reads w' (.slice (some ⟨g, 0, none⟩) kn cp) (L.take kn)) := hrt2
        have HM2 : Hid (leastL (L.drop kn ++ L.take kn) = M) := by show _ = _; rw [← HM.out]; exact least_turned L kn
        clear s1 o0 b0 hrt2 hrd2
        go_region_held3 (fun _ => True) (trivial) (first
          | ((refine step_append_src (by rfl) (.tmp 110) (.tmp 113) 27 (by rfl) w'.heap.size 3 i0 (.int .i64 0) 1 8 Try.underlying27 hi hz0 hz1 hz2 rfl (by decide) (.slice (some ⟨w'.heap.size, 0, none⟩) 0 0) 0 [] (by rfl) O0.out (.slice A (n - kn) (cp - kn)) (n - kn) ((L.drop kn).map (Value.int .i64)) (by rfl) S1.out (by rw [List.length_map, HL1.out, Nat.mul_one]) (ints_oneCell' _) (by unfold maxLen; omega) (by omega) B0.out.size ?_; intro v1 w1 o1 g1 l1; have B1 : Hid (Below w'.heap.size w' w1) := below_grown B0.out g1 (fun k h => by simp [Value.ownBlock] at h; omega); have O1 : Hid (w1.ownsRow w'.heap.size 3 1 v1 (n - kn) ((L.drop kn).map (Value.int .i64))) := by { have := o1; rw [Nat.zero_add, List.nil_append] at this; exact this }; clear o1 g1 l1))
          | ((refine step_append_src (by rfl) (.tmp 114) (.tmp 117) 27 (by rfl) w'.heap.size 3 i0 (.int .i64 0) 1 8 Try.underlying27 hi hz0 hz1 hz2 rfl (by decide) v1 (n - kn) ((L.drop kn).map (Value.int .i64)) (by rfl) O1.out (.slice (some ⟨g, 0, none⟩) kn cp) kn ((L.take kn).map (Value.int .i64)) (by rfl) (by have h := (RT.out.below B1.out).src (fun c h => by simp at h); rw [HL2.out] at h; exact h) (by rw [List.length_map, HL2.out, Nat.mul_one]) (ints_oneCell' _) (by unfold maxLen; omega) (by omega) B1.out.size ?_; intro v2 w2 o2 g2 l2; have B2 : Hid (Below w'.heap.size w' w2) := below_grown B1.out g2 (fun k h => (O1.out.lt k h).1); have R2 : Hid (Reads w2 v2 (L.drop kn ++ L.take kn)) := by { refine own_reads (base := w'.heap.size) (n := n - kn + kn) ?_; rw [List.map_append]; exact o2 }; clear o2 g2 l2))
          | ((go_at_call_of 10 (v2); refine (least_any v2 _ _ R2.out).mono ?_; rintro e w3 ⟨rfl, hw3⟩; subst hw3; rw [HM2.out]))
          | ((go_at_call 10; refine (least_none none 0 _).mono ?_; rintro e w3 ⟨rfl, hw3⟩; subst hw3))
          | ((go_at_call 3; refine (centsRuns_any _).mono ?_; rintro e w4 ⟨rfl, B4⟩)))
        go_wp2
        go_ret
        exact ⟨rfl, below_then (below_then hbel2 B2.out) B4⟩
end Go.Proofs.Ytloginogbegebaa
