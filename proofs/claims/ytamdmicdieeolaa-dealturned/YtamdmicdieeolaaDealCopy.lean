/-
  Package deal: the walk of Copy.
-/
import Derived.Test.YtamdmicdieeolaaDealTurn
import Derived.Laws.OwnMore
import Derived.Lib.SliceRun
namespace Go.Proofs.Ytamdmicdieeolaa
open Go.RowKit

set_option maxHeartbeats 2000000 in
theorem clone_ln (v : Value) (p : List LnT) (w : World) (h : Lies 2 LnT.f w v p) (hl : p.length ≤ 1000) :
    Calls Try.prog 31 #[v] w fun e w' => ∃ v', e = .returned v' ∧ w'.ownsRow w.heap.size 46 2 v' p.length (p.flatMap LnT.f) ∧ Below w.heap.size w w' := by
  obtain ⟨i0, hi, hz0, hz1, hz2⟩ := info_parts Try.info_ln
  have HL := h
  obtain ⟨a, cap, rfl, _, hcm, hz, _⟩ := h
  obtain ⟨n, hn⟩ : ∃ n, p.length = n := ⟨_, rfl⟩
  have hlen := HL.len
  rw [hn] at HL hlen hl ⊢
  unfold maxLen at hlen
  have hm : n ≤ 9223372036854775807 := by omega
  have H2 : Hid (Lies 2 LnT.f w (.slice a n cap) p) := HL
  have HN : Hid (p.length = n) := hn
  clear HL hcm hn
  have qS : ∀ (w : World) (a : Option Addr) (n c : Nat), (binOp .eql 22 (.slice a n c) (.slice none 0 0)).run Try.prog w = .ok (.bool a.isNone) w := fun w a n c => Lib.run_eql_slice_nil w _ _ a n c 0 0 Try.underlying22
  cases a with
  | none =>
    obtain rfl := hz rfl
    obtain rfl : n = 0 := by omega
    have e : p = [] := List.eq_nil_of_length_eq_zero HN.out
    subst e
    clear hz hlen
    go_enter Try.func31, Try.ntmps31
    go_wp2
    go_ret
    exact ⟨_, rfl, World.ownsRow_nil _ _ _ _, Below.refl _ _⟩
  | some a =>
    have OW : Hid ((w.alloc (.cells #[] 46)).ownsRow w.heap.size 46 2 (.slice (some ⟨w.heap.size, 0, none⟩) 0 0) 0 []) := World.ownsRow_lit w #[] 0 (Nat.le_refl _) (Nat.zero_le _) rfl
    have SR : Hid (Src (w.alloc (.cells #[] 46)) (.slice (some a) n cap) n (p.flatMap LnT.f)) := by
      have := (H2.out.below (below_alloc (Below.refl _ _) (.cells #[] 46))).src LnT.len (by omega)
      rw [HN.out] at this
      exact this
    have FL : Hid ((p.flatMap LnT.f).length = n * 2) := by
      show _ = _
      rw [flat_length LnT.len, HN.out]
    have BS : Hid (w.heap.size ≤ (w.alloc (.cells #[] 46)).heap.size) := by
      show _ ≤ _
      simp
    go_enter Try.func31, Try.ntmps31
    go_wp2_with (refine wpList_append_src rfl (.tmp 5) (.tmp 6) 22 rfl w.heap.size 46 i0 (.agg #[.int .i64 0, .int .i64 0]) 2 16 Try.underlying22 hi hz0 hz1 hz2 rfl (by decide) (.slice (some ⟨w.heap.size, 0, none⟩) 0 0) 0 [] rfl OW.out (.slice (some a) n cap) n (p.flatMap LnT.f) rfl SR.out FL.out (flat_one LnT.one) (by unfold maxLen; omega) (by omega) BS.out ?_; intro v' w2 ow gr ob)
    go_ret
    rw [Nat.zero_add, List.nil_append] at ow
    exact ⟨_, rfl, ow, below_grown (below_alloc (Below.refl _ _) _) gr (fun k hk => (OW.out.lt k hk).1)⟩
set_option maxHeartbeats 2000000 in
theorem clone_tr (v : Value) (p : List TrT) (w : World) (h : Lies 3 TrT.f w v p) (hl : p.length ≤ 1000) :
    Calls Try.prog 32 #[v] w fun e w' => ∃ v', e = .returned v' ∧ w'.ownsRow w.heap.size 32 3 v' p.length (p.flatMap TrT.f) ∧ Below w.heap.size w w' := by
  obtain ⟨i0, hi, hz0, hz1, hz2⟩ := info_parts Try.info_tr
  have HL := h
  obtain ⟨a, cap, rfl, _, hcm, hz, _⟩ := h
  obtain ⟨n, hn⟩ : ∃ n, p.length = n := ⟨_, rfl⟩
  have hlen := HL.len
  rw [hn] at HL hlen hl ⊢
  unfold maxLen at hlen
  have hm : n ≤ 9223372036854775807 := by omega
  have H2 : Hid (Lies 3 TrT.f w (.slice a n cap) p) := HL
  have HN : Hid (p.length = n) := hn
  clear HL hcm hn
  have qS : ∀ (w : World) (a : Option Addr) (n c : Nat), (binOp .eql 23 (.slice a n c) (.slice none 0 0)).run Try.prog w = .ok (.bool a.isNone) w := fun w a n c => Lib.run_eql_slice_nil w _ _ a n c 0 0 Try.underlying23
  cases a with
  | none =>
    obtain rfl := hz rfl
    obtain rfl : n = 0 := by omega
    have e : p = [] := List.eq_nil_of_length_eq_zero HN.out
    subst e
    clear hz hlen
    go_enter Try.func32, Try.ntmps32
    go_wp2
    go_ret
    exact ⟨_, rfl, World.ownsRow_nil _ _ _ _, Below.refl _ _⟩
  | some a =>
    have OW : Hid ((w.alloc (.cells #[] 32)).ownsRow w.heap.size 32 3 (.slice (some ⟨w.heap.size, 0, none⟩) 0 0) 0 []) := World.ownsRow_lit w #[] 0 (Nat.le_refl _) (Nat.zero_le _) rfl
    have SR : Hid (Src (w.alloc (.cells #[] 32)) (.slice (some a) n cap) n (p.flatMap TrT.f)) := by
      have := (H2.out.below (below_alloc (Below.refl _ _) (.cells #[] 32))).src TrT.len (by omega)
      rw [HN.out] at this
      exact this
    have FL : Hid ((p.flatMap TrT.f).length = n * 3) := by
      show _ = _
      rw [flat_length TrT.len, HN.out]
    have BS : Hid (w.heap.size ≤ (w.alloc (.cells #[] 32)).heap.size) := by
      show _ ≤ _
      simp
    go_enter Try.func32, Try.ntmps32
    go_wp2_with (refine wpList_append_src rfl (.tmp 5) (.tmp 6) 23 rfl w.heap.size 32 i0 (.agg #[.int .i64 0, .int .i64 0, .int .i64 0]) 3 24 Try.underlying23 hi hz0 hz1 hz2 rfl (by decide) (.slice (some ⟨w.heap.size, 0, none⟩) 0 0) 0 [] rfl OW.out (.slice (some a) n cap) n (p.flatMap TrT.f) rfl SR.out FL.out (flat_one TrT.one) (by unfold maxLen; omega) (by omega) BS.out ?_; intro v' w2 ow gr ob)
    go_ret
    rw [Nat.zero_add, List.nil_append] at ow
    exact ⟨_, rfl, ow, below_grown (below_alloc (Below.refl _ _) _) gr (fun k hk => (OW.out.lt k hk).1)⟩
set_option maxHeartbeats 2000000 in
theorem clone_st (v : Value) (p : List StT) (w : World) (h : Lies 2 StT.f w v p) (hl : p.length ≤ 1000) :
    Calls Try.prog 33 #[v] w fun e w' => ∃ v', e = .returned v' ∧ w'.ownsRow w.heap.size 37 2 v' p.length (p.flatMap StT.f) ∧ Below w.heap.size w w' := by
  obtain ⟨i0, hi, hz0, hz1, hz2⟩ := info_parts Try.info_st
  have HL := h
  obtain ⟨a, cap, rfl, _, hcm, hz, _⟩ := h
  obtain ⟨n, hn⟩ : ∃ n, p.length = n := ⟨_, rfl⟩
  have hlen := HL.len
  rw [hn] at HL hlen hl ⊢
  unfold maxLen at hlen
  have hm : n ≤ 9223372036854775807 := by omega
  have H2 : Hid (Lies 2 StT.f w (.slice a n cap) p) := HL
  have HN : Hid (p.length = n) := hn
  clear HL hcm hn
  have qS : ∀ (w : World) (a : Option Addr) (n c : Nat), (binOp .eql 26 (.slice a n c) (.slice none 0 0)).run Try.prog w = .ok (.bool a.isNone) w := fun w a n c => Lib.run_eql_slice_nil w _ _ a n c 0 0 Try.underlying26
  cases a with
  | none =>
    obtain rfl := hz rfl
    obtain rfl : n = 0 := by omega
    have e : p = [] := List.eq_nil_of_length_eq_zero HN.out
    subst e
    clear hz hlen
    go_enter Try.func33, Try.ntmps33
    go_wp2
    go_ret
    exact ⟨_, rfl, World.ownsRow_nil _ _ _ _, Below.refl _ _⟩
  | some a =>
    have OW : Hid ((w.alloc (.cells #[] 37)).ownsRow w.heap.size 37 2 (.slice (some ⟨w.heap.size, 0, none⟩) 0 0) 0 []) := World.ownsRow_lit w #[] 0 (Nat.le_refl _) (Nat.zero_le _) rfl
    have SR : Hid (Src (w.alloc (.cells #[] 37)) (.slice (some a) n cap) n (p.flatMap StT.f)) := by
      have := (H2.out.below (below_alloc (Below.refl _ _) (.cells #[] 37))).src StT.len (by omega)
      rw [HN.out] at this
      exact this
    have FL : Hid ((p.flatMap StT.f).length = n * 2) := by
      show _ = _
      rw [flat_length StT.len, HN.out]
    have BS : Hid (w.heap.size ≤ (w.alloc (.cells #[] 37)).heap.size) := by
      show _ ≤ _
      simp
    go_enter Try.func33, Try.ntmps33
    go_wp2_with (refine wpList_append_src rfl (.tmp 5) (.tmp 6) 26 rfl w.heap.size 37 i0 (.agg #[.int .i64 0, .int .i64 0]) 2 16 Try.underlying26 hi hz0 hz1 hz2 rfl (by decide) (.slice (some ⟨w.heap.size, 0, none⟩) 0 0) 0 [] rfl OW.out (.slice (some a) n cap) n (p.flatMap StT.f) rfl SR.out FL.out (flat_one StT.one) (by unfold maxLen; omega) (by omega) BS.out ?_; intro v' w2 ow gr ob)
    go_ret
    rw [Nat.zero_add, List.nil_append] at ow
    exact ⟨_, rfl, ow, below_grown (below_alloc (Below.refl _ _) _) gr (fun k hk => (OW.out.lt k hk).1)⟩
/-- As Copy is under way: m modes' lists are copied. -/
structure CopyS (w : World) (G R : Nat) (d : DealT) (l n : Value) (m : Nat) (V : List Value) (wx : World) : Prop where
  below : Below w.heap.size w wx
  bd : Blk wx G 29 ((NumT.f d.t l n l l l).take 15 ++ V)
  br : Blk wx R 29 zeroD
  ol : wx.ownsRow (R + 1) 46 2 l d.ls.length (d.ls.flatMap LnT.f)
  on : wx.ownsRow (R + 1) 32 3 n d.ns.length (d.ns.flatMap TrT.f)
  lenV : V.length = 3
  each : ∀ (j : Nat) (v : Value), j < m → V[j]? = some v → wx.ownsRow (R + 1) 37 2 v (d.mode j).length ((d.mode j).flatMap StT.f)
  apart : ∀ (i j : Nat) (v u : Value), i < j → j < m → V[i]? = some v → V[j]? = some u → ∀ g, v.ownBlock = some g → u.ownBlock ≠ some g
section
variable {w wx wy : World} {G R m : Nat} {d : DealT} {l n : Value} {V : List Value}
theorem CopyS.then (h : CopyS w G R d l n m V wx) (b : Below wx.heap.size wx wy) : CopyS w G R d l n m V wy :=
  ⟨below_then h.below b, h.bd.then b, h.br.then b, own_below h.ol b, own_below h.on b, h.lenV, fun j v h1 h2 => own_below (h.each j v h1 h2) b, h.apart⟩
theorem CopyS.next (h : CopyS w G R d l n m V wx) (b : Below wx.heap.size wx wy) {u : Value} (o : wy.ownsRow wx.heap.size 37 2 u (d.mode m).length ((d.mode m).flatMap StT.f)) (hm : m < 3) (h0 : w.heap.size ≤ G) (h1 : G < R) :
    CopyS w G R d l n (m + 1) (V.set m u) (wy.setCell ⟨G, 15 + m, none⟩ u) := by
  have hy := h.then b
  have rl := h.br.lt
  have hl : ((NumT.f d.t l n l l l).take 15).length = 15 := rfl
  have hk := hy.bd.set (15 + m) u
  rw [List.set_append_right _ _ (by omega), hl, Nat.add_sub_cancel_left] at hk
  have r := Rest.set G (15 + m) wy u
  refine ⟨hy.below.setCell h0 _, hk, hy.br.set_other _ _ (by omega) _, own_above hy.ol r (by omega), own_above hy.on r (by omega), by simp [h.lenV], fun j v hj g1 => ?_, fun i j v v' hij hj g1 g2 g e => ?_⟩
  · by_cases hjm : j = m
    · subst hjm
      rw [List.getElem?_set_self (by rw [h.lenV]; exact hm)] at g1
      simp only [Option.some.injEq] at g1
      subst g1
      exact own_above (own_low o rl) r (by omega)
    · rw [List.getElem?_set_ne (Ne.symm hjm)] at g1
      exact own_above (hy.each j v (by omega) g1) r (by omega)
  · have him : i ≠ m := by omega
    rw [List.getElem?_set_ne (Ne.symm him)] at g1
    by_cases hjm : j = m
    · subst hjm
      rw [List.getElem?_set_self (by rw [h.lenV]; exact hm)] at g2
      simp only [Option.some.injEq] at g2
      subst g2
      intro e'
      have l1 := (o.lt g e').1
      have := (h.each i v hij g1).lt g e
      omega
    · rw [List.getElem?_set_ne (Ne.symm hjm)] at g2
      exact h.apart i j v v' hij (by omega) g1 g2 g e
theorem CopyS.all (h : CopyS w G R d l n 3 V wx) : ∃ a b c, V = [a, b, c] ∧ DealOwn (R + 1) wx l n a b c d := by
  have e := h.each
  have p := h.apart
  have l1 := h.lenV
  match V, l1 with
  | [a, b, c], _ => exact ⟨a, b, c, rfl, h.ol, h.on, e 0 a (by decide) rfl, e 1 b (by decide) rfl, e 2 c (by decide) rfl, p 0 1 a b (by decide) (by decide) rfl rfl, p 0 2 a c (by decide) (by decide) rfl rfl, p 1 2 b c (by decide) (by decide) rfl rfl⟩
end
set_option maxHeartbeats 4000000 in
theorem copy_any (l n a b c : Value) (d : DealT) (w : World) (h : DealIn w l n a b c d) (h1 : d.ls.length ≤ 1000) (h2 : d.ns.length ≤ 1000) (h3 : ∀ k, (d.mode k).length ≤ 1000) :
    Calls Try.prog 14 #[d.t.v l n a b c] w fun e w' => ∃ l' n' a' b' c', e = .returned (d.t.v l' n' a' b' c') ∧ DealOwn w.heap.size w' l' n' a' b' c' d ∧ Below w.heap.size w w' := by
  obtain ⟨t, ht⟩ : ∃ t, d.t = t := ⟨_, rfl⟩
  have HT : Hid (d.t = t) := ht
  rw [ht]
  clear ht
  obtain ⟨yr, mo, ba, fe, re, ta, ad, cu, t0, t1, t2, t3, t4⟩ := t
  unfold NumT.v
  simp only
  have HL : Hid (∀ k, k < 3 → Lies 2 StT.f w (#[a, b, c].getD k undef) (d.mode k)) := fun k hk => by
    rcases (show k = 0 ∨ k = 1 ∨ k = 2 by omega) with rfl | rfl | rfl
    · exact h.s0
    · exact h.s1
    · exact h.s2
  have H3 : Hid (∀ k, (d.mode k).length ≤ 1000) := h3
  clear h3
  go_enter Try.func14, Try.ntmps14
  go_upto_region 1 with fail
  refine wp_letter (fun wx => ∃ G R, w.heap.size = G ∧ G + 1 = R ∧ Blk wx G 29 (NumT.f ⟨yr, mo, ba, fe, re, ta, ad, cu, t0, t1, t2, t3, t4⟩ l n a b c) ∧ Blk wx R 29 zeroD ∧ Below w.heap.size w wx) ⟨_, _, rfl, rfl, (Blk.fresh _ _ (NumT.f ⟨yr, mo, ba, fe, re, ta, ad, cu, t0, t1, t2, t3, t4⟩ l n a b c)).alloc _, Blk.fresh2 _ _ _ zeroD, below_alloc (below_alloc (Below.refl _ _) _) _⟩ ?_
  rintro W ⟨G, R, eG, eR, bG, bR, hW⟩
  rw [eG, eR]
  have rl := bR.lt
  have c3 := bG.cell 3 _ rfl
  have f3 := bG.frozen 3
  go_upto_region 2 with (go_at_call 31; refine (clone_ln _ d.ls _ (h.ls.below hW) h1).mono ?_; rintro e w1 ⟨v1, rfl, o1, d1⟩; obtain ⟨p1, q1, r1, rfl⟩ := own_slice o1; replace c3 := cell_keep d1 c3; replace f3 := (bG.then d1).frozen 3)
  refine wp_letter (fun wx => Blk wx G 29 (NumT.f ⟨yr, mo, ba, fe, re, ta, ad, cu, t0, t1, t2, t3, t4⟩ (.slice p1 q1 r1) n a b c) ∧ Blk wx R 29 zeroD ∧ wx.ownsRow (R + 1) 46 2 (.slice p1 q1 r1) d.ls.length (d.ls.flatMap LnT.f) ∧ Below w.heap.size w wx)
    ⟨(bG.then d1).set 3 _, (bR.then d1).set_other _ _ (by omega) _, own_above (own_low o1 rl) (Rest.set G 3 w1 _) (by omega), (below_then hW d1).setCell (Nat.le_of_eq eG) _⟩ ?_
  clear hW bG bR c3 f3 o1 d1 rl
  rintro X ⟨bG, bR, o1, hX⟩
  have rl := bR.lt
  have c4 := bG.cell 4 _ rfl
  have f4 := bG.frozen 4
  go_upto_region 3 with (go_at_call 32; refine (clone_tr _ d.ns _ (h.ns.below hX) h2).mono ?_; rintro e w2 ⟨v2, rfl, o2, d2⟩; obtain ⟨p2, q2, r2, rfl⟩ := own_slice o2; replace c4 := cell_keep d2 c4; replace f4 := (bG.then d2).frozen 4)
  refine wp_letter (fun wx => CopyS w G R d (.slice p1 q1 r1) (.slice p2 q2 r2) 0 [a, b, c] wx)
    ⟨(below_then hX d2).setCell (Nat.le_of_eq eG) _, by rw [HT.out]; exact (bG.then d2).set 4 _, (bR.then d2).set_other _ _ (by omega) _, own_above (own_below o1 d2) (Rest.set G 4 w2 _) (by omega), own_above (own_low o2 rl) (Rest.set G 4 w2 _) (by omega), rfl, fun j v h => absurd h (Nat.not_lt_zero _), fun i j v u _ h => absurd h (Nat.not_lt_zero _)⟩ ?_
  clear hX bG bR c4 f4 o1 o2 d2 rl
  intro Y hS
  have HS : Hid (CopyS w G R d (.slice p1 q1 r1) (.slice p2 q2 r2) 0 [a, b, c] Y) := hS
  have hd := hS.bd
  rw [HT.out] at hd
  have c15 := hd.cell 15 _ rfl
  have c16 := hd.cell 16 _ rfl
  have c17 := hd.cell 17 _ rfl
  clear hS hd h
  go_wp2
  clear c15 c16 c17
  go_loopw [15] (fun i wr => ∃ (m : Nat) (V : List Value), m ≤ 3 ∧ i = .int .i64 m ∧ CopyS w G R d (.slice p1 q1 r1) (.slice p2 q2 r2) m V wr) (fun i _ => 3 - (intOf i).toNat)
  case atStart => exact ⟨0, _, Nat.zero_le _, rfl, HS.out⟩
  case round =>
  clear HS
  obtain ⟨m, V, hm, rfl, hS⟩ := hrel
  have HS : Hid (CopyS w G R d (.slice p1 q1 r1) (.slice p2 q2 r2) m V wr) := hS
  clear hS
  by_cases hlt : m < 3
  · have hl := HL.out m hlt
    obtain ⟨v, hv⟩ : ∃ v, #[a, b, c].getD m undef = v := ⟨_, rfl⟩
    rw [hv] at hl
    have hi := index_three a b c v m hlt hv
    have hl2 := hl.below HS.out.below
    have hlen := H3.out m
    have m0 : (0 : Int) ≤ (m : Int) := by omega
    have m1 : (m : Int) < 3 := by omega
    clear hl hv
    go_upto_region 7 with (go_at_call 33; refine (clone_st _ (d.mode m) _ hl2 hlen).mono ?_; rintro e w3 ⟨v3, rfl, o3, d3⟩; obtain ⟨p3, q3, r3, rfl⟩ := own_slice o3; (have hb := (HS.out.then d3)); (obtain ⟨vM, eM⟩ : ∃ u, V[m]? = some u := ⟨_, List.getElem?_eq_getElem (by rw [hb.lenV]; exact hlt)⟩); (have dl : ((NumT.f d.t (.slice p1 q1 r1) (.slice p2 q2 r2) (.slice p1 q1 r1) (.slice p1 q1 r1) (.slice p1 q1 r1)).take 15 ++ V)[15 + m]? = some vM := (by rw [List.getElem?_append_right (by show 15 ≤ 15 + m; omega)]; show V[15 + m - 15]? = _; rw [Nat.add_sub_cancel_left]; exact eM)); (have cd := hb.bd.cell (15 + m) _ dl); (have fd := hb.bd.frozen (15 + m)); (have HN : Hid (_) := HS.out.next d3 o3 hlt (Nat.le_of_eq eG) (by omega)); clear hb dl eM o3 d3)
    go_wp2
    go_roundw
    case rel => exact ⟨m + 1, _, by omega, by go_num, HN.out⟩
    case measure => simp [intOf]; omega
  · obtain rfl : m = 3 := by omega
    obtain ⟨a', b', c', rfl, dO⟩ := HS.out.all
    obtain ⟨a1, a2, a3, rfl⟩ := own_slice dO.s0
    obtain ⟨b1, b2, b3, rfl⟩ := own_slice dO.s1
    obtain ⟨c1, c2, c3, rfl⟩ := own_slice dO.s2
    have bG : Blk wr G 29 (NumT.f ⟨yr, mo, ba, fe, re, ta, ad, cu, t0, t1, t2, t3, t4⟩ (.slice p1 q1 r1) (.slice p2 q2 r2) (.slice a1 a2 a3) (.slice b1 b2 b3) (.slice c1 c2 c3)) := by
      have := HS.out.bd
      rw [HT.out] at this
      exact this
    have bR := HS.out.br
    have hBw := HS.out.below
    clear HS HL
    go_wp2_with (first
      | (refine wpList_load_row rfl 29 (.tmp 1) rfl G rfl 29 #[.int .i64 yr, .int .i64 mo, .int .i64 ba, .slice p1 q1 r1, .slice p2 q2 r2, .int .i64 fe, .int .i64 re, .int .i64 ta, .int .i64 ad, .int .i64 cu, .int .i64 t0, .int .i64 t1, .int .i64 t2, .int .i64 t3, .int .i64 t4, .slice a1 a2 a3, .slice b1 b2 b3, .slice c1 c2 c3] (0, 0) _ bG Try.underlying29 rfl Try.size_deal ?_)
      | (refine wpList_store_mid rfl 29 (.tmp 2) (.tmp 25) rfl R 0 #[.int .i64 yr, .int .i64 mo, .int .i64 ba, .slice p1 q1 r1, .slice p2 q2 r2, .int .i64 fe, .int .i64 re, .int .i64 ta, .int .i64 ad, .int .i64 cu, .int .i64 t0, .int .i64 t1, .int .i64 t2, .int .i64 t3, .int .i64 t4, .slice a1 a2 a3, .slice b1 b2 b3, .slice c1 c2 c3] rfl rfl (bR.there 0 18 (by decide)) Try.size_deal (all_oneCell_toArray (cs := NumT.f ⟨yr, mo, ba, fe, re, ta, ad, cu, t0, t1, t2, t3, t4⟩ (.slice p1 q1 r1) (.slice p2 q2 r2) (.slice a1 a2 a3) (.slice b1 b2 b3) (.slice c1 c2 c3)) (NumT.one _ rfl rfl rfl rfl rfl)) ?_))
    have hs := Rest.setCells R (NumT.f ⟨yr, mo, ba, fe, re, ta, ad, cu, t0, t1, t2, t3, t4⟩ (.slice p1 q1 r1) (.slice p2 q2 r2) (.slice a1 a2 a3) (.slice b1 b2 b3) (.slice c1 c2 c3)) 0 wr
    refine post_letter (fun wx => Blk wx R 29 (NumT.f ⟨yr, mo, ba, fe, re, ta, ad, cu, t0, t1, t2, t3, t4⟩ (.slice p1 q1 r1) (.slice p2 q2 r2) (.slice a1 a2 a3) (.slice b1 b2 b3) (.slice c1 c2 c3)) ∧ DealOwn (R + 1) wx (.slice p1 q1 r1) (.slice p2 q2 r2) (.slice a1 a2 a3) (.slice b1 b2 b3) (.slice c1 c2 c3) d ∧ Below w.heap.size w wx)
      ⟨bR.over rfl, dO.above hs (by omega), hs.below hBw (by omega) hBw.size⟩ ?_
    rintro X9 ⟨bX, dX, hX9⟩
    exact ret_deal rfl rfl rfl bX rfl ⟨_, _, _, _, _, rfl, dX.low (by omega), hX9⟩
end Go.Proofs.Ytamdmicdieeolaa
