/-
  The walk of SheetNet.
-/
import Derived.Test.YtolbgemaildbkaaEntP
import Derived.Test.YtolbgemaildbkaaSheetRunsWalk
import Derived.Test.YtolbgemaildbkaaBook
namespace Go.Proofs.Ytolbgemaildbkaa
open Go.RowKit

theorem Try.info_entry : (Try.prog.info? 27).map (fun i => (i.zero, i.size, i.bytes)) = some (some (.agg #[.int .i64 0, .int .i64 0]), 2, 16) := by kernel_rfl

/-- An argument that is a slice of entries. -/
theorem arg_ents {w : World} {v : Value} (h : Arg w (.slice 2 (.struct (.cons 1 (.int .i64) (.cons 1 (.int .i64) .nil)))) v) : ∃ es : List Ent, Lies 2 Ent.f w v es ∧ ∀ e ∈ es, I64 e.acc ∧ I64 e.amt :=
  holds_list Ent.f (fun e => I64 e.acc ∧ I64 e.amt) (fun cs hc => by
    obtain ⟨a, b, rfl, ha, hb⟩ := holds_ints2 hc
    exact ⟨⟨a, b⟩, rfl, ha, hb⟩) h
/-- One entry of a slice, as it lies there. -/
theorem Lies.ent {w : World} {a : Option Addr} {n cap : Nat} {es : List Ent} (h : Lies 2 Ent.f w (.slice a n cap) es) (k : Nat) (hk : k < n) :
    ∃ b off ac am, a = some ⟨b, off, none⟩ ∧ es[k]? = some ⟨ac, am⟩ ∧ w.cell? ⟨b, off + k * 2, none⟩ = some (.int .i64 ac) ∧ w.cell? ⟨b, off + k * 2 + 1, none⟩ = some (.int .i64 am) := by
  obtain ⟨b, off, rfl, hc⟩ := h.place (by omega)
  have hl := h.len
  have hx : es[k]? = some (es[k]'(by omega)) := List.getElem?_eq_getElem (by omega)
  have c := hc k _ hx
  have c0 := c 0 _ rfl
  have c1 := c 1 _ rfl
  rw [Nat.add_zero] at c0
  exact ⟨b, off, _, _, rfl, hx, c0, c1⟩

/-- The entries so far. -/
structure NetInv (n : Nat) (B : Int) (w wr : World) (v : Value) (k : Nat) (S : Int) (xs : List Ent) : Prop where
  len : xs.length = k
  own : wr.ownsRow w.heap.size 27 2 v k (xs.flatMap Ent.f)
  small : Small n B xs
  sum : sumA xs = S
  below : Below w.heap.size w wr
theorem NetInv.more {n : Nat} {B : Int} {w wr w1 : World} {v v' : Value} {k : Nat} {S : Int} {xs : List Ent} (h : NetInv n B w wr v k S xs) (x : Ent) (hx : (0 ≤ x.acc ∧ x.acc < n) ∧ -B ≤ x.amt ∧ x.amt ≤ B) (ho : w1.ownsRow w.heap.size 27 2 v' (k + 1) (xs.flatMap Ent.f ++ x.f)) (hb : Below w.heap.size w w1) :
    NetInv n B w w1 v' (k + 1) (S + x.amt) (xs ++ [x]) :=
  ⟨by simp [h.len], own_more x ho, h.small.append (Small.one hx), by rw [sumA_append, h.sum]; simp [sumA], hb⟩
theorem src_none {w : World} : Src w (.slice none 0 0) 0 [] := ⟨none, 0, rfl, fun _ => ⟨rfl, rfl⟩, fun a h => by simp at h⟩
theorem within_bd (n lo hi : Int) (h : lo ≤ hi) : lo ≤ lo + n % (hi - lo + 1) ∧ lo + n % (hi - lo + 1) ≤ hi := by
  have h1 := Int.emod_nonneg n (b := hi - lo + 1) (by omega)
  have h2 := Int.emod_lt_of_pos n (b := hi - lo + 1) (by omega)
  omega
theorem below_set2 {a w : World} {g : Nat} {u v : Value} (h : Below a.heap.size a w) (hg : a.heap.size ≤ g) : Below a.heap.size a ((w.setCell ⟨g, 0, none⟩ u).setCell ⟨g, 1, none⟩ v) := (h.setCell hg u).setCell hg v

theorem net_many : netV (List.replicate 65 (⟨0, 0⟩ : Ent)) = 0 ∧ netB (List.replicate 65 (⟨0, 0⟩ : Ent)) = false := by
  have h : netB (List.replicate 65 (⟨0, 0⟩ : Ent)) = false := by unfold netB; rw [List.length_replicate, decide_eq_false (by omega)]; simp
  exact ⟨by rw [netV, h, if_neg (by simp)], h⟩
theorem net_none : netV [] = 0 ∧ netB [] = true := by decide
theorem made_ents : (madeCells (Value.agg #[.int .i64 0, .int .i64 0]).cells (65 * 2)).toList = (List.replicate 65 (⟨0, 0⟩ : Ent)).flatMap Ent.f := by kernel_rfl

set_option maxRecDepth 1000000 in
set_option maxHeartbeats 4000000 in
theorem sheetNet_any (v0 v1 : Value) (w : World) (w0 : Arg w (.slice 2 (.struct (.cons 1 (.int .i64) (.cons 1 (.int .i64) .nil)))) v0) (w1 : Arg w (.int .i64) v1) :
    Calls Try.prog 6 #[v0, v1] w fun e w' => e = .returned (.bool true) ∧ Below w.heap.size w w' := by
  obtain ⟨i0, hi, hz0, hz1, hz2⟩ := info_parts Try.info_entry
  obtain ⟨es, hL, hE⟩ := arg_ents w0
  obtain ⟨cut, rfl, _⟩ := arg_int w1
  obtain ⟨a0, cap0, rfl, _, _, _, _⟩ := id hL
  obtain ⟨len0, hlen⟩ : ∃ l, es.length = l := ⟨_, rfl⟩
  rw [hlen] at hL ⊢
  have hl := hL.len
  unfold maxLen at hl
  have HL0 : Hid (Lies 2 Ent.f w (.slice a0 len0 cap0) es) := hL
  have hm : len0 ≤ 9223372036854775807 := by omega
  clear hL hE w0 w1 hl hlen
  go_enter Try.func6, Try.ntmps6
  go_upto_block 0 with fail
  go_cut [5, 6] (fun v s wx => ∃ (k : Nat) (S : Int) (xs : List Ent), k ≤ 40 ∧ s = .int .i64 S ∧ NetInv 4 1125899906842624 w wx v k S xs)
  case first =>
    go_wp2_with fail
    go_loopw [5, 6, 7] (fun v s i wr => ∃ (k : Nat) (S : Int) (xs : List Ent), k ≤ 40 ∧ i = .int .i64 k ∧ s = .int .i64 S ∧ NetInv 4 1125899906842624 w wr v k S xs) (fun _ _ i _ => 40 - (intOf i).toNat)
    case atStart => exact ⟨0, 0, [], by omega, rfl, rfl, ⟨rfl, World.ownsRow_nil _ _ _ _, Small.nil, rfl, Below.refl _ _⟩⟩
    case round =>
    obtain ⟨k, S, xs, hk, rfl, rfl, hI⟩ := hrel
    have HI : Hid (NetInv 4 1125899906842624 w wr u5 k S xs) := hI
    have hS := hI.small.sum
    rw [hI.sum, hI.len] at hS
    have s0 : -45035996273704960 ≤ S := by omega
    have s1 : S ≤ 45035996273704960 := by omega
    clear hI hS
    by_cases g1 : k < len0
    · by_cases g2 : k < 40
      · obtain ⟨b, off, ac, am, rfl, _, c0, c1⟩ := HL0.out.ent k g1
        replace c0 := cell_keep HI.out.below c0
        replace c1 := cell_keep HI.out.below c1
        have cW : ∀ wx, Below wr.heap.size wr wx → wx.cell? ⟨b, off + k * 2, none⟩ = some (.int .i64 ac) ∧ wx.cell? ⟨b, off + k * 2 + 1, none⟩ = some (.int .i64 am) := fun wx bx => ⟨cell_keep bx c0, cell_keep bx c1⟩
        obtain ⟨X, hX⟩ : ∃ X, 0 + ac % (3 - 0 + 1) = X := ⟨_, rfl⟩
        obtain ⟨Y, hY⟩ : ∃ Y, -1125899906842624 + am % (1125899906842624 - -1125899906842624 + 1) = Y := ⟨_, rfl⟩
        have E1 : Hid (0 + ac % (3 - 0 + 1) = X) := hX
        have E2 : Hid (-1125899906842624 + am % (1125899906842624 - -1125899906842624 + 1) = Y) := hY
        have hbx := within_bd ac 0 3 (by omega)
        have hby := within_bd am (-1125899906842624) 1125899906842624 (by omega)
        rw [hX] at hbx
        rw [hY] at hby
        have x0 : 0 ≤ X := hbx.1
        have x1 : X < 4 := by omega
        have y0 : -1125899906842624 ≤ Y := hby.1
        have y1 : Y ≤ 1125899906842624 := hby.2
        clear hX hY hbx hby
        have g3 : (k : Int) < (len0 : Int) := by omega
        go_upto_region 6 with fail
        go_cut [8] (fun p wx => ∃ Q, wr.heap.size = Q ∧ p = .pointer (some ⟨Q, 0, none⟩) ∧ Below wr.heap.size wr wx ∧ wx.cell? ⟨Q, 0, none⟩ = some (.int .i64 X) ∧ wx.cell? ⟨Q, 1, none⟩ = some (.int .i64 Y))
        case first =>
          go_region_held3 (fun wx => Below wr.heap.size wr wx ∧ wx.cell? ⟨b, off + k * 2, none⟩ = some (.int .i64 ac) ∧ wx.cell? ⟨b, off + k * 2 + 1, none⟩ = some (.int .i64 am)) (((try go_split_ands); refine held (cW _) ?_; repeat (first | with_reducible assumption | with_reducible exact below_thn (by assumption) (by assumption) | with_reducible refine Below.drew ?_ | with_reducible refine below_alloc ?_ _ | with_reducible refine below_set2 ?_ (by first | omega | (simp; omega)) | with_reducible exact Below.refl _ _))) (first | ((go_at_call 14; refine (within_any _ _ _ (by omega) (by omega) (by omega) (by omega) _).mono ?_; rintro e wq ⟨rfl, hq⟩; have hq := hq.symm; subst hq; (first | rw [E1.out] | rw [E2.out]))))
          all_goals
            go_wp2
            go_meet
            case rel => exact ⟨_, rfl, rfl, (below_alloc (Below.refl _ _) _).drew, by simp [go_sem], by simp [go_sem]⟩
        case rest =>
        obtain ⟨Q, eQ, rfl, hV, q0, q1⟩ := hcut
        have ho := own_below HI.out.own hV
        clear cW c0 c1 E1 E2
        go_wp2_with (at_builtin; refine wpList_append_src rfl (.tmp 42) (.tmp 44) 34 rfl w.heap.size 27 i0 (.agg #[.int .i64 0, .int .i64 0]) 2 16 Try.underlying34 hi hz0 hz1 hz2 rfl (by decide) _ _ _ rfl (ho.alloc _) _ 1 (Ent.f ⟨X, Y⟩) rfl (src_new _ _ 1 _) rfl (Ent.one _) ?c1 ?c2 ?c3 ?_)
        case c1 => unfold maxLen; omega
        case c2 => omega
        case c3 => have h1 := hV.size; have h2 := HI.out.below.size; simp; omega
        have hBw := below_then HI.out.below hV
        have hQ2 : wr.heap.size ≤ Q := Nat.le_of_eq eQ
        have hQ3 : Q < wc.heap.size := World.block_lt_of_cell? wc ⟨Q, 0, none⟩ q0
        intro v' w2 hown' hgrow _
        have q1' : w2.cell? ⟨Q, 1, none⟩ = some (.int .i64 Y) := by
          rw [World.cell?_of_block (w := wc.alloc (.cells #[.int .i64 X, .int .i64 Y] 27)) (a := ⟨Q, 1, none⟩) (hgrow.block Q (by simp; omega) (fun e => by have := (HI.out.own.lt Q e.symm).2; omega))]
          exact cell_keep (below_alloc (Below.refl _ _) _) q1
        have hb1 := below_append hBw ho hgrow
        clear ho hgrow hV q0 q1 hBw
        go_wp2
        go_roundw
        case rel => exact ⟨k + 1, _, _, by omega, by go_num, rfl, HI.out.more ⟨X, Y⟩ ⟨⟨x0, x1⟩, y0, y1⟩ hown' hb1⟩
        case measure => simp [intOf]; omega
      · go_wp2
        go_meet
        case rel => exact ⟨k, S, xs, hk, rfl, HI.out⟩
    · go_wp2
      go_meet
      case rel => exact ⟨k, S, xs, hk, rfl, HI.out⟩
  case rest =>
  obtain ⟨n, S, xs, hn, rfl, hI⟩ := hcut
  clear HL0 hm
  have hS := hI.small.sum
  rw [hI.sum, hI.len] at hS
  have s0 : -45035996273704960 ≤ S := by omega
  have s1 : S ≤ 45035996273704960 := by omega
  clear hS
  obtain ⟨kn, hkn⟩ := Int.eq_ofNat_of_zero_le (Int.emod_nonneg cut (b := (n : Int) - 0 + 1) (by omega))
  have hkl : kn ≤ n := by
    have := Int.emod_lt_of_pos cut (b := (n : Int) - 0 + 1) (by omega)
    omega
  have E1 : Hid (0 + cut % ((n : Int) - 0 + 1) = (kn : Int)) := by show _ = _; rw [hkn]; simp
  have E2 := E1
  clear hkn
  have HL : Hid (xs.length = n) := hI.len
  have HO : Hid (wc.ownsRow w.heap.size 27 2 u5 n (xs.flatMap Ent.f)) := hI.own
  have hlies : Lies 2 Ent.f wc u5 xs := own_lies Ent.len hI.own hI.len
  have hB := hI.below
  have HSm : Hid (Small 4 1125899906842624 xs ∧ ∀ e ∈ xs, I64 e.amt) := ⟨hI.small, hI.small.i64 (by omega)⟩
  have HN1 : Hid (netV xs = S ∧ netB xs = true) := by
    have := hI.small.net (by omega) (by omega) (by rw [hI.len]; omega)
    rw [hI.sum] at this
    exact ⟨this.2, this.1⟩
  have hsub : ∀ e ∈ xs.drop kn ++ xs.take kn, e ∈ xs := fun x hx => (List.mem_append.1 hx).elim (fun h => List.mem_of_mem_drop h) (fun h => List.mem_of_mem_take h)
  have HN2 : Hid ((netV (xs.drop kn ++ xs.take kn) = S ∧ netB (xs.drop kn ++ xs.take kn) = true) ∧ ∀ e ∈ xs.drop kn ++ xs.take kn, I64 e.amt) := by
    have sm := hI.small.sub hsub
    have hl : (xs.drop kn ++ xs.take kn).length ≤ 64 := by rw [List.length_append, List.length_drop, List.length_take, hI.len]; omega
    have h1 := sm.net (by omega) (by omega) hl
    have h2 : sumA (xs.drop kn ++ xs.take kn) = S := by rw [sumA_append, Int.add_comm, ← sumA_append, List.take_append_drop, hI.sum]
    rw [h2] at h1
    exact ⟨⟨h1.2, h1.1⟩, sm.i64 (by omega)⟩
  have HP : Hid (postB 4 (List.replicate 64 0) xs = (decide (S = 0) && decide (0 < n))) := by
    have := hI.small.post (bal := List.replicate 64 0) (by omega) (by omega) (by rw [hI.len]; omega) 0 (by omega) (zeros_bd 64)
    rw [hI.sum, hI.len] at this
    exact this
  clear hI hsub
  obtain ⟨a5, c5, e5, _, _, _, _⟩ := id hlies
  rw [HL.out] at e5
  subst e5
  go_upto_region 11 with (first
    | (go_at_call 14; refine (within_any _ _ _ (by omega) (by omega) (by omega) (by omega) _).mono ?_; rintro e wq ⟨rfl, hq⟩; have hq := hq.symm; subst hq; (first | rw [E1.out] | rw [E2.out]))
    | (go_at_call 18; refine (net_any _ xs _ hlies HSm.out.2).mono ?_; rintro e wn ⟨rfl, bn⟩; rw [HN1.out.1, HN1.out.2]))
  have HLw : Hid (Lies 2 Ent.f wn (.slice a5 n c5) xs) := hlies.below bn
  replace hB := below_then hB bn
  have HO2 : Hid (wn.ownsRow w.heap.size 27 2 (.slice a5 n c5) n (xs.flatMap Ent.f)) := own_below HO.out bn
  clear bn hlies HO
  go_cut [12, 13] (fun a b wx => a = .int .i64 S ∧ b = .bool true ∧ Below wn.heap.size wn wx)
  case first =>
    rcases HO2.out.2 with ⟨e5, h0⟩ | ⟨g, cp, cur, e5, hg, _, hcp, hcm, _, _⟩
    · subst h0
      obtain ⟨rfl, rfl⟩ : a5 = none ∧ c5 = 0 := by simpa using e5
      clear e5
      obtain rfl : xs = [] := List.eq_nil_of_length_eq_zero HL.out
      obtain rfl : kn = 0 := by omega
      have O0 : Hid ((wn.alloc (.cells #[] 27)).drew.ownsRow wn.heap.size 27 2 (.slice (some ⟨wn.heap.size, 0, none⟩) 0 0) 0 []) := (World.ownsRow_lit (base := wn.heap.size) (size := 2) wn #[] 0 (Nat.le_refl _) (by unfold maxLen; omega) rfl).drew
      have B0 : Hid (Below wn.heap.size wn (wn.alloc (.cells #[] 27)).drew) := ((Below.refl _ _).alloc (Nat.le_refl _) _).drew
      clear E1 E2
      go_region_held3 (fun _ => True) (trivial) (first
        | ((refine step_append_src (by rfl) (.tmp 60) (.tmp 63) 34 (by rfl) wn.heap.size 27 i0 (.agg #[.int .i64 0, .int .i64 0]) 2 16 Try.underlying34 hi hz0 hz1 hz2 rfl (by decide) (.slice (some ⟨wn.heap.size, 0, none⟩) 0 0) 0 [] (by rfl) O0.out (.slice none 0 0) 0 [] (by rfl) src_none rfl (by simp) (by unfold maxLen; omega) (by omega) B0.out.size ?_; intro v1 w1 o1 g1 l1; have B1 : Hid (Below wn.heap.size wn w1) := below_grown B0.out g1 (fun k h => by simp [Value.ownBlock] at h; omega); have O1 : Hid (w1.ownsRow wn.heap.size 27 2 v1 0 []) := o1; clear o1 g1 l1))
        | ((refine step_append_src (by rfl) (.tmp 64) (.tmp 67) 34 (by rfl) wn.heap.size 27 i0 (.agg #[.int .i64 0, .int .i64 0]) 2 16 Try.underlying34 hi hz0 hz1 hz2 rfl (by decide) v1 0 [] (by rfl) O1.out (.slice none 0 0) 0 [] (by rfl) src_none rfl (by simp) (by unfold maxLen; omega) (by omega) B1.out.size ?_; intro v2 w2 o2 g2 l2; have B2 : Hid (Below wn.heap.size wn w2) := below_grown B1.out g2 (fun k h => (O1.out.lt k h).1); have R2 : Hid (Lies 2 Ent.f w2 v2 []) := own_lies (base := wn.heap.size) (e := 27) (n := 0) Ent.len o2 rfl; clear o2 g2 l2))
        | ((go_at_call_of 18 (v2); refine (net_any v2 [] _ R2.out (by simp)).mono ?_; rintro e w3 ⟨rfl, b3⟩; rw [HN1.out.1, HN1.out.2])))
      have B3 : Hid (Below wn.heap.size wn w3) := below_then B2.out b3
      clear b3
      go_wp2
      go_meet
      case rel => exact ⟨rfl, rfl, B3.out⟩
    · unfold maxLen at hcm
      obtain ⟨rfl, rfl⟩ : a5 = some ⟨g, 0, none⟩ ∧ c5 = cp := by simpa using e5
      clear e5
      have k1 : (0 : Int) ≤ (kn : Int) := by omega
      have k2 : (kn : Int) ≤ (c5 : Int) := by omega
      have k3 : (kn : Int) ≤ (n : Int) := by omega
      have k4 : (n : Int) ≤ (c5 : Int) := by omega
      obtain ⟨A, hA⟩ : ∃ A, (if c5 = kn then some (⟨g, 0, none⟩ : Addr) else some ⟨g, kn * 2, none⟩) = A := ⟨_, rfl⟩
      have hlw := HLw.out
      have hrd := hlw.drop kn hkl A (by rw [← hA, Nat.zero_add])
      have hrt := hlw.take kn hkl
      have o0 : (wn.alloc (.cells #[] 27)).drew.ownsRow wn.heap.size 27 2 (.slice (some ⟨wn.heap.size, 0, none⟩) 0 0) 0 [] := (World.ownsRow_lit (base := wn.heap.size) (size := 2) wn #[] 0 (Nat.le_refl _) (by unfold maxLen; omega) rfl).drew
      have b0 : Below wn.heap.size wn (wn.alloc (.cells #[] 27)).drew := ((Below.refl _ _).alloc (Nat.le_refl _) _).drew
      have s1 := (hrd.below b0).src Ent.len (by omega)
      have HL1 : Hid ((xs.drop kn).length = n - kn) := by show _ = _; rw [List.length_drop, HL.out]
      have HL2 : Hid ((xs.take kn).length = kn) := by show _ = _; rw [List.length_take, HL.out]; omega
      rw [HL1.out] at s1
      have S1 : Hid (Src (wn.alloc (.cells #[] 27)).drew (.slice A (n - kn) (c5 - kn)) (n - kn) ((xs.drop kn).flatMap Ent.f)) := s1
      have O0 : Hid ((wn.alloc (.cells #[] 27)).drew.ownsRow wn.heap.size 27 2 (.slice (some ⟨wn.heap.size, 0, none⟩) 0 0) 0 []) := o0
      have B0 : Hid (Below wn.heap.size wn (wn.alloc (.cells #[] 27)).drew) := b0
      have RT : Hid (Lies 2 Ent.f wn (.slice (some ⟨g, 0, none⟩) kn c5) (xs.take kn)) := hrt
      clear s1 o0 b0 hrt hrd hlw E1 E2
      go_region_held3 (fun _ => True) (trivial) (first
        | ((refine step_append_src (by rfl) (.tmp 60) (.tmp 63) 34 (by rfl) wn.heap.size 27 i0 (.agg #[.int .i64 0, .int .i64 0]) 2 16 Try.underlying34 hi hz0 hz1 hz2 rfl (by decide) (.slice (some ⟨wn.heap.size, 0, none⟩) 0 0) 0 [] (by rfl) O0.out (.slice A (n - kn) (c5 - kn)) (n - kn) ((xs.drop kn).flatMap Ent.f) (by rfl) S1.out (by rw [flat_length Ent.len, HL1.out]) (flat_one Ent.one) (by unfold maxLen; omega) (by omega) B0.out.size ?_; intro v1 w1 o1 g1 l1; have B1 : Hid (Below wn.heap.size wn w1) := below_grown B0.out g1 (fun k h => by simp [Value.ownBlock] at h; omega); have O1 : Hid (w1.ownsRow wn.heap.size 27 2 v1 (n - kn) ((xs.drop kn).flatMap Ent.f)) := by { have := o1; rw [Nat.zero_add, List.nil_append] at this; exact this }; clear o1 g1 l1))
        | ((refine step_append_src (by rfl) (.tmp 64) (.tmp 67) 34 (by rfl) wn.heap.size 27 i0 (.agg #[.int .i64 0, .int .i64 0]) 2 16 Try.underlying34 hi hz0 hz1 hz2 rfl (by decide) v1 (n - kn) ((xs.drop kn).flatMap Ent.f) (by rfl) O1.out (.slice (some ⟨g, 0, none⟩) kn c5) kn ((xs.take kn).flatMap Ent.f) (by rfl) (by have h := (RT.out.below B1.out).src Ent.len (by omega); rw [HL2.out] at h; exact h) (by rw [flat_length Ent.len, HL2.out]) (flat_one Ent.one) (by unfold maxLen; omega) (by omega) B1.out.size ?_; intro v2 w2 o2 g2 l2; have B2 : Hid (Below wn.heap.size wn w2) := below_grown B1.out g2 (fun k h => (O1.out.lt k h).1); have R2 : Hid (Lies 2 Ent.f w2 v2 (xs.drop kn ++ xs.take kn)) := by { refine own_lies (base := wn.heap.size) (e := 27) (n := n - kn + kn) Ent.len ?_ (by rw [List.length_append, HL1.out, HL2.out]); rw [List.flatMap_append]; exact o2 }; clear o2 g2 l2))
        | ((go_at_call_of 18 (v2); refine (net_any v2 _ _ R2.out HN2.out.2).mono ?_; rintro e w3 ⟨rfl, b3⟩; rw [HN2.out.1.1, HN2.out.1.2])))
      have B3 : Hid (Below wn.heap.size wn w3) := below_then B2.out b3
      clear b3
      go_wp2
      go_meet
      case rel => exact ⟨rfl, rfl, B3.out⟩
  case rest =>
  obtain ⟨rfl, rfl, hV⟩ := hcut
  have HLc : Hid (Lies 2 Ent.f wc (.slice a5 n c5) xs) := HLw.out.below hV
  replace hB := below_then hB hV
  clear hV HLw HO2 HN2 E1 E2
  have HM : Hid (netV (List.replicate 65 (⟨0, 0⟩ : Ent)) = 0 ∧ netB (List.replicate 65 (⟨0, 0⟩ : Ent)) = false) := net_many
  have HM0 : Hid (netV [] = 0 ∧ netB [] = true) := net_none
  have HMI : Hid (∀ e ∈ List.replicate 65 (⟨0, 0⟩ : Ent), I64 e.amt) := fun e he => by rw [List.eq_of_mem_replicate he]; exact ⟨by simp, by simp⟩
  go_upto_region 13 with (first
    | (at_make; refine wpList_make_full _ rfl _ _ 34 rfl wc.heap.size 27 i0 (.agg #[.int .i64 0, .int .i64 0]) 2 Try.underlying34 hi hz0 hz1 .i64 .i64 _ _ 65 rfl rfl (by simp) (by simp) (by rw [hz2]; omega) (by unfold maxLen; omega) (Nat.le_refl _) ?_; intro w4 o4 g4; have R4 : Hid (Lies 2 Ent.f w4 (.slice (some ⟨wc.heap.size, 0, none⟩) 65 65) (List.replicate 65 ⟨0, 0⟩)) := (own_lies Ent.len (by rw [made_ents] at o4; exact o4) (by simp)); have B4 : Hid (Below wc.heap.size wc w4) := (below_grown (Below.refl _ _) g4 (fun k hk => by simp at hk)); clear o4 g4)
    | (go_at_call 18; refine (net_any _ (List.replicate 65 ⟨0, 0⟩) _ R4.out HMI.out).mono ?_; rintro e w5 ⟨rfl, b5⟩; rw [HM.out.1, HM.out.2]))
  replace hB := below_then (below_then hB B4.out) b5
  have HLd := HLc.out.below (below_then B4.out b5)
  clear HLc B4 b5 R4 HM HMI
  go_upto_region 17 with (first
    | (go_at_call 18; refine (net_any _ [] _ (Lies.nil _ _ _) (by simp)).mono ?_; rintro e w6 ⟨rfl, b6⟩; rw [HM0.out.1, HM0.out.2])
    | (go_at_call 8; refine (new_any _ _).mono ?_; rintro e w7 ⟨rfl, s7, b7⟩))
  have hG0 := (below_then hB b6).size
  replace hB := below_then (below_then hB b6) b7
  have HLe : Hid (Lies 2 Ent.f w7 (.slice a5 n c5) xs) := HLd.below (below_then b6 b7)
  have en : accN 4 = 4 := by decide
  rw [en] at s7
  clear HLd HM0 b6 b7
  obtain ⟨G, hG⟩ : ∃ G, w6.heap.size = G := ⟨_, rfl⟩
  rw [hG] at s7 hG0 ⊢
  clear hG
  have HZ : Hid (∀ x ∈ List.replicate 64 (0 : Int), amtOk x = true) := zeros_ok 64
  obtain ⟨L, hL⟩ : ∃ L, postL 4 (List.replicate 64 0) xs = L := ⟨_, rfl⟩
  obtain ⟨N, hN⟩ : ∃ N, postC 4 (List.replicate 64 0) xs 0 = N := ⟨_, rfl⟩
  have HLN : Hid (postL 4 (List.replicate 64 0) xs = L ∧ postC 4 (List.replicate 64 0) xs 0 = N) := ⟨hL, hN⟩
  clear hL hN
  by_cases hS0 : S = 0
  · subst hS0
    by_cases hn0 : 0 < n
    · have HB : Hid (postB 4 (List.replicate 64 0) xs = true) := by show _ = _; rw [HP.out]; simp [hn0]
      have n0 : (0 : Int) < (n : Int) := by omega
      clear HP
      (go_wp2_with (first | (go_at_call 10; refine (post_to s7 HLe.out HSm.out.2 HZ.out (by omega) (by omega) HB.out HLN.out.1 HLN.out.2).mono ?_; rintro e w8 ⟨rfl, s8, r8⟩; have b8 := r8.below hB hG0 hB.size) | (go_at_call 3; refine (sheetRuns_any _).mono ?_; rintro e w9 ⟨rfl, b9⟩)); go_ret; exact ⟨rfl, below_then b8 b9⟩)
    · obtain rfl : n = 0 := by omega
      have HB : Hid (postB 4 (List.replicate 64 0) xs = false) := by show _ = _; rw [HP.out]; simp
      clear HP
      (go_wp2_with (first | (go_at_call 10; refine (post_to s7 HLe.out HSm.out.2 HZ.out (by omega) (by omega) HB.out HLN.out.1 HLN.out.2).mono ?_; rintro e w8 ⟨rfl, s8, r8⟩; have b8 := r8.below hB hG0 hB.size) | (go_at_call 3; refine (sheetRuns_any _).mono ?_; rintro e w9 ⟨rfl, b9⟩)); go_ret; exact ⟨rfl, below_then b8 b9⟩)
  · have HB : Hid (postB 4 (List.replicate 64 0) xs = false) := by show _ = _; rw [HP.out, decide_eq_false hS0]; rfl
    have e0 : (S == 0) = false := by simpa using hS0
    clear HP hS0
    (go_wp2_with (first | (go_at_call 10; refine (post_to s7 HLe.out HSm.out.2 HZ.out (by omega) (by omega) HB.out HLN.out.1 HLN.out.2).mono ?_; rintro e w8 ⟨rfl, s8, r8⟩; have b8 := r8.below hB hG0 hB.size) | (go_at_call 3; refine (sheetRuns_any _).mono ?_; rintro e w9 ⟨rfl, b9⟩)); go_ret; exact ⟨rfl, below_then b8 b9⟩)
end Go.Proofs.Ytolbgemaildbkaa
