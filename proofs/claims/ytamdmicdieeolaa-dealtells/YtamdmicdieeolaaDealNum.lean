/-
  Package deal: the walk of rightNumbers: one walk for each number that may be the first beyond its bound.
-/
import Derived.Test.YtamdmicdieeolaaDeal1
namespace Go.Proofs.Ytamdmicdieeolaa
open Go.RowKit

/-- within, asked of numbers laid in a block of their own. -/
abbrev WithinC (lo hi : Int) (n : Nat) (cs : Array Value) (A : Bool) : Prop := ∀ (w : World) (R : Ending → World → Prop), (∀ w', Below w.heap.size w w' → R (.returned (.bool A)) w') → Calls Try.prog 25 #[.int .i64 lo, .int .i64 hi, .slice (some ⟨w.heap.size, 0, none⟩) n n] (w.alloc (.cells cs 3)) R
theorem withinC {lo hi : Int} {zs : List Int} {n : Nat} {A : Bool} (e : inL lo hi zs = A) (hn : zs.length = n) (hb : n ≤ 1000) : WithinC lo hi n (zs.map (Value.int .i64)).toArray A := fun w R h =>
  (dwithin_new lo hi zs w 3 n _ rfl hn hb).mono (by rintro x w' ⟨rfl, d⟩; rw [e]; exact h w' d)
/-- A deal's numbers in a block, its Tests in another. -/
structure NumB (g h : Nat) (t : NumT) (l n a b c : Value) (w : World) : Prop where
  d : Blk w g 29 (t.f l n a b c)
  t : Blk w h 25 [.int .i64 t.t0, .int .i64 t.t1, .int .i64 t.t2, .int .i64 t.t3, .int .i64 t.t4]
theorem NumB.then {g h : Nat} {t : NumT} {l n a b c : Value} {w w' : World} (k : NumB g h t l n a b c w) (j : Below w.heap.size w w') : NumB g h t l n a b c w' := ⟨k.d.then j, k.t.then j⟩

set_option maxHeartbeats 4000000 in
theorem rnums_1 (l n a b c : Value) (yr mo ba fe re ta ad cu t0 t1 t2 t3 t4 : Int) (h1 : inL 1 9000 [yr] = false) (w : World) :
    Calls Try.prog 17 #[NumT.v ⟨yr, mo, ba, fe, re, ta, ad, cu, t0, t1, t2, t3, t4⟩ l n a b c] w fun e w' => e = .returned (.bool false) ∧ Below w.heap.size w w' := by
  unfold NumT.v
  simp only
  have P1 : Hid (WithinC 1 9000 1 #[.int .i64 yr] false) := withinC h1 rfl (by decide)
  clear h1
  go_enter Try.func17, Try.ntmps17
  go_upto_region 2 with fail
  refine wp_letter (fun wx => ∃ g h, w.heap.size = g ∧ g + 1 = h ∧ NumB g h ⟨yr, mo, ba, fe, re, ta, ad, cu, t0, t1, t2, t3, t4⟩ l n a b c wx ∧ Below w.heap.size w wx) ⟨_, _, rfl, rfl, ⟨(Blk.fresh _ _ (NumT.f ⟨yr, mo, ba, fe, re, ta, ad, cu, t0, t1, t2, t3, t4⟩ l n a b c)).alloc _, Blk.fresh2 _ _ _ _⟩, below_alloc (below_alloc (Below.refl _ _) _) _⟩ ?_
  rintro W ⟨g, h, eg, eh, N, hB⟩
  rw [eg, eh]
  clear eg eh
  have cyr := N.d.cell 0 _ rfl
  go_wp2_with (first | (with_reducible refine P1.out _ _ (fun w1 d1 => ?_); replace hB := below_then hB d1; replace N := N.then d1; have cmo := N.d.cell 1 _ rfl))
  go_ret
  exact ⟨rfl, hB⟩
set_option maxHeartbeats 4000000 in
theorem rnums_2 (l n a b c : Value) (yr mo ba fe re ta ad cu t0 t1 t2 t3 t4 : Int) (h1 : inL 1 9000 [yr] = true) (h2 : inL 1 12 [mo] = false) (w : World) :
    Calls Try.prog 17 #[NumT.v ⟨yr, mo, ba, fe, re, ta, ad, cu, t0, t1, t2, t3, t4⟩ l n a b c] w fun e w' => e = .returned (.bool false) ∧ Below w.heap.size w w' := by
  unfold NumT.v
  simp only
  have P1 : Hid (WithinC 1 9000 1 #[.int .i64 yr] true) := withinC h1 rfl (by decide)
  have P2 : Hid (WithinC 1 12 1 #[.int .i64 mo] false) := withinC h2 rfl (by decide)
  clear h1 h2
  go_enter Try.func17, Try.ntmps17
  go_upto_region 2 with fail
  refine wp_letter (fun wx => ∃ g h, w.heap.size = g ∧ g + 1 = h ∧ NumB g h ⟨yr, mo, ba, fe, re, ta, ad, cu, t0, t1, t2, t3, t4⟩ l n a b c wx ∧ Below w.heap.size w wx) ⟨_, _, rfl, rfl, ⟨(Blk.fresh _ _ (NumT.f ⟨yr, mo, ba, fe, re, ta, ad, cu, t0, t1, t2, t3, t4⟩ l n a b c)).alloc _, Blk.fresh2 _ _ _ _⟩, below_alloc (below_alloc (Below.refl _ _) _) _⟩ ?_
  rintro W ⟨g, h, eg, eh, N, hB⟩
  rw [eg, eh]
  clear eg eh
  have cyr := N.d.cell 0 _ rfl
  go_wp2_with (first | (with_reducible refine P1.out _ _ (fun w1 d1 => ?_); replace hB := below_then hB d1; replace N := N.then d1; have cmo := N.d.cell 1 _ rfl) | (with_reducible refine P2.out _ _ (fun w2 d2 => ?_); replace hB := below_then hB d2; replace N := N.then d2; have cba := N.d.cell 2 _ rfl))
  go_ret
  exact ⟨rfl, hB⟩
set_option maxHeartbeats 4000000 in
theorem rnums_3 (l n a b c : Value) (yr mo ba fe re ta ad cu t0 t1 t2 t3 t4 : Int) (h1 : inL 1 9000 [yr] = true) (h2 : inL 1 12 [mo] = true) (h3 : inL 0 2 [ba] = false) (w : World) :
    Calls Try.prog 17 #[NumT.v ⟨yr, mo, ba, fe, re, ta, ad, cu, t0, t1, t2, t3, t4⟩ l n a b c] w fun e w' => e = .returned (.bool false) ∧ Below w.heap.size w w' := by
  unfold NumT.v
  simp only
  have P1 : Hid (WithinC 1 9000 1 #[.int .i64 yr] true) := withinC h1 rfl (by decide)
  have P2 : Hid (WithinC 1 12 1 #[.int .i64 mo] true) := withinC h2 rfl (by decide)
  have P3 : Hid (WithinC 0 2 1 #[.int .i64 ba] false) := withinC h3 rfl (by decide)
  clear h1 h2 h3
  go_enter Try.func17, Try.ntmps17
  go_upto_region 2 with fail
  refine wp_letter (fun wx => ∃ g h, w.heap.size = g ∧ g + 1 = h ∧ NumB g h ⟨yr, mo, ba, fe, re, ta, ad, cu, t0, t1, t2, t3, t4⟩ l n a b c wx ∧ Below w.heap.size w wx) ⟨_, _, rfl, rfl, ⟨(Blk.fresh _ _ (NumT.f ⟨yr, mo, ba, fe, re, ta, ad, cu, t0, t1, t2, t3, t4⟩ l n a b c)).alloc _, Blk.fresh2 _ _ _ _⟩, below_alloc (below_alloc (Below.refl _ _) _) _⟩ ?_
  rintro W ⟨g, h, eg, eh, N, hB⟩
  rw [eg, eh]
  clear eg eh
  have cyr := N.d.cell 0 _ rfl
  go_wp2_with (first | (with_reducible refine P1.out _ _ (fun w1 d1 => ?_); replace hB := below_then hB d1; replace N := N.then d1; have cmo := N.d.cell 1 _ rfl) | (with_reducible refine P2.out _ _ (fun w2 d2 => ?_); replace hB := below_then hB d2; replace N := N.then d2; have cba := N.d.cell 2 _ rfl) | (with_reducible refine P3.out _ _ (fun w3 d3 => ?_); replace hB := below_then hB d3; replace N := N.then d3; have cfe := N.d.cell 5 _ rfl))
  go_ret
  exact ⟨rfl, hB⟩
set_option maxHeartbeats 4000000 in
theorem rnums_4 (l n a b c : Value) (yr mo ba fe re ta ad cu t0 t1 t2 t3 t4 : Int) (h1 : inL 1 9000 [yr] = true) (h2 : inL 1 12 [mo] = true) (h3 : inL 0 2 [ba] = true) (h4 : inL 0 5000 [fe] = false) (w : World) :
    Calls Try.prog 17 #[NumT.v ⟨yr, mo, ba, fe, re, ta, ad, cu, t0, t1, t2, t3, t4⟩ l n a b c] w fun e w' => e = .returned (.bool false) ∧ Below w.heap.size w w' := by
  unfold NumT.v
  simp only
  have P1 : Hid (WithinC 1 9000 1 #[.int .i64 yr] true) := withinC h1 rfl (by decide)
  have P2 : Hid (WithinC 1 12 1 #[.int .i64 mo] true) := withinC h2 rfl (by decide)
  have P3 : Hid (WithinC 0 2 1 #[.int .i64 ba] true) := withinC h3 rfl (by decide)
  have P4 : Hid (WithinC 0 5000 1 #[.int .i64 fe] false) := withinC h4 rfl (by decide)
  clear h1 h2 h3 h4
  go_enter Try.func17, Try.ntmps17
  go_upto_region 2 with fail
  refine wp_letter (fun wx => ∃ g h, w.heap.size = g ∧ g + 1 = h ∧ NumB g h ⟨yr, mo, ba, fe, re, ta, ad, cu, t0, t1, t2, t3, t4⟩ l n a b c wx ∧ Below w.heap.size w wx) ⟨_, _, rfl, rfl, ⟨(Blk.fresh _ _ (NumT.f ⟨yr, mo, ba, fe, re, ta, ad, cu, t0, t1, t2, t3, t4⟩ l n a b c)).alloc _, Blk.fresh2 _ _ _ _⟩, below_alloc (below_alloc (Below.refl _ _) _) _⟩ ?_
  rintro W ⟨g, h, eg, eh, N, hB⟩
  rw [eg, eh]
  clear eg eh
  have cyr := N.d.cell 0 _ rfl
  go_wp2_with (first | (with_reducible refine P1.out _ _ (fun w1 d1 => ?_); replace hB := below_then hB d1; replace N := N.then d1; have cmo := N.d.cell 1 _ rfl) | (with_reducible refine P2.out _ _ (fun w2 d2 => ?_); replace hB := below_then hB d2; replace N := N.then d2; have cba := N.d.cell 2 _ rfl) | (with_reducible refine P3.out _ _ (fun w3 d3 => ?_); replace hB := below_then hB d3; replace N := N.then d3; have cfe := N.d.cell 5 _ rfl) | (with_reducible refine P4.out _ _ (fun w4 d4 => ?_); replace hB := below_then hB d4; replace N := N.then d4; have cta := N.d.cell 7 _ rfl))
  go_ret
  exact ⟨rfl, hB⟩
set_option maxHeartbeats 4000000 in
theorem rnums_5 (l n a b c : Value) (yr mo ba fe re ta ad cu t0 t1 t2 t3 t4 : Int) (h1 : inL 1 9000 [yr] = true) (h2 : inL 1 12 [mo] = true) (h3 : inL 0 2 [ba] = true) (h4 : inL 0 5000 [fe] = true) (h5 : inL 0 10000 [ta] = false) (w : World) :
    Calls Try.prog 17 #[NumT.v ⟨yr, mo, ba, fe, re, ta, ad, cu, t0, t1, t2, t3, t4⟩ l n a b c] w fun e w' => e = .returned (.bool false) ∧ Below w.heap.size w w' := by
  unfold NumT.v
  simp only
  have P1 : Hid (WithinC 1 9000 1 #[.int .i64 yr] true) := withinC h1 rfl (by decide)
  have P2 : Hid (WithinC 1 12 1 #[.int .i64 mo] true) := withinC h2 rfl (by decide)
  have P3 : Hid (WithinC 0 2 1 #[.int .i64 ba] true) := withinC h3 rfl (by decide)
  have P4 : Hid (WithinC 0 5000 1 #[.int .i64 fe] true) := withinC h4 rfl (by decide)
  have P5 : Hid (WithinC 0 10000 1 #[.int .i64 ta] false) := withinC h5 rfl (by decide)
  clear h1 h2 h3 h4 h5
  go_enter Try.func17, Try.ntmps17
  go_upto_region 2 with fail
  refine wp_letter (fun wx => ∃ g h, w.heap.size = g ∧ g + 1 = h ∧ NumB g h ⟨yr, mo, ba, fe, re, ta, ad, cu, t0, t1, t2, t3, t4⟩ l n a b c wx ∧ Below w.heap.size w wx) ⟨_, _, rfl, rfl, ⟨(Blk.fresh _ _ (NumT.f ⟨yr, mo, ba, fe, re, ta, ad, cu, t0, t1, t2, t3, t4⟩ l n a b c)).alloc _, Blk.fresh2 _ _ _ _⟩, below_alloc (below_alloc (Below.refl _ _) _) _⟩ ?_
  rintro W ⟨g, h, eg, eh, N, hB⟩
  rw [eg, eh]
  clear eg eh
  have cyr := N.d.cell 0 _ rfl
  go_wp2_with (first | (with_reducible refine P1.out _ _ (fun w1 d1 => ?_); replace hB := below_then hB d1; replace N := N.then d1; have cmo := N.d.cell 1 _ rfl) | (with_reducible refine P2.out _ _ (fun w2 d2 => ?_); replace hB := below_then hB d2; replace N := N.then d2; have cba := N.d.cell 2 _ rfl) | (with_reducible refine P3.out _ _ (fun w3 d3 => ?_); replace hB := below_then hB d3; replace N := N.then d3; have cfe := N.d.cell 5 _ rfl) | (with_reducible refine P4.out _ _ (fun w4 d4 => ?_); replace hB := below_then hB d4; replace N := N.then d4; have cta := N.d.cell 7 _ rfl) | (with_reducible refine P5.out _ _ (fun w5 d5 => ?_); replace hB := below_then hB d5; replace N := N.then d5; have cre := N.d.cell 6 _ rfl; have cad := N.d.cell 8 _ rfl))
  go_ret
  exact ⟨rfl, hB⟩
set_option maxHeartbeats 4000000 in
theorem rnums_6 (l n a b c : Value) (yr mo ba fe re ta ad cu t0 t1 t2 t3 t4 : Int) (h1 : inL 1 9000 [yr] = true) (h2 : inL 1 12 [mo] = true) (h3 : inL 0 2 [ba] = true) (h4 : inL 0 5000 [fe] = true) (h5 : inL 0 10000 [ta] = true) (h6 : inL 0 1099511627776 [re, ad] = false) (w : World) :
    Calls Try.prog 17 #[NumT.v ⟨yr, mo, ba, fe, re, ta, ad, cu, t0, t1, t2, t3, t4⟩ l n a b c] w fun e w' => e = .returned (.bool false) ∧ Below w.heap.size w w' := by
  unfold NumT.v
  simp only
  have P1 : Hid (WithinC 1 9000 1 #[.int .i64 yr] true) := withinC h1 rfl (by decide)
  have P2 : Hid (WithinC 1 12 1 #[.int .i64 mo] true) := withinC h2 rfl (by decide)
  have P3 : Hid (WithinC 0 2 1 #[.int .i64 ba] true) := withinC h3 rfl (by decide)
  have P4 : Hid (WithinC 0 5000 1 #[.int .i64 fe] true) := withinC h4 rfl (by decide)
  have P5 : Hid (WithinC 0 10000 1 #[.int .i64 ta] true) := withinC h5 rfl (by decide)
  have P6 : Hid (WithinC 0 1099511627776 2 #[.int .i64 re, .int .i64 ad] false) := withinC h6 rfl (by decide)
  clear h1 h2 h3 h4 h5 h6
  go_enter Try.func17, Try.ntmps17
  go_upto_region 2 with fail
  refine wp_letter (fun wx => ∃ g h, w.heap.size = g ∧ g + 1 = h ∧ NumB g h ⟨yr, mo, ba, fe, re, ta, ad, cu, t0, t1, t2, t3, t4⟩ l n a b c wx ∧ Below w.heap.size w wx) ⟨_, _, rfl, rfl, ⟨(Blk.fresh _ _ (NumT.f ⟨yr, mo, ba, fe, re, ta, ad, cu, t0, t1, t2, t3, t4⟩ l n a b c)).alloc _, Blk.fresh2 _ _ _ _⟩, below_alloc (below_alloc (Below.refl _ _) _) _⟩ ?_
  rintro W ⟨g, h, eg, eh, N, hB⟩
  rw [eg, eh]
  clear eg eh
  have cyr := N.d.cell 0 _ rfl
  go_wp2_with (first | (with_reducible refine P1.out _ _ (fun w1 d1 => ?_); replace hB := below_then hB d1; replace N := N.then d1; have cmo := N.d.cell 1 _ rfl) | (with_reducible refine P2.out _ _ (fun w2 d2 => ?_); replace hB := below_then hB d2; replace N := N.then d2; have cba := N.d.cell 2 _ rfl) | (with_reducible refine P3.out _ _ (fun w3 d3 => ?_); replace hB := below_then hB d3; replace N := N.then d3; have cfe := N.d.cell 5 _ rfl) | (with_reducible refine P4.out _ _ (fun w4 d4 => ?_); replace hB := below_then hB d4; replace N := N.then d4; have cta := N.d.cell 7 _ rfl) | (with_reducible refine P5.out _ _ (fun w5 d5 => ?_); replace hB := below_then hB d5; replace N := N.then d5; have cre := N.d.cell 6 _ rfl; have cad := N.d.cell 8 _ rfl) | (with_reducible refine P6.out _ _ (fun w6 d6 => ?_); replace hB := below_then hB d6; replace N := N.then d6; have ccu := N.d.cell 9 _ rfl))
  go_ret
  exact ⟨rfl, hB⟩
set_option maxHeartbeats 4000000 in
theorem rnums_7 (l n a b c : Value) (yr mo ba fe re ta ad cu t0 t1 t2 t3 t4 : Int) (h1 : inL 1 9000 [yr] = true) (h2 : inL 1 12 [mo] = true) (h3 : inL 0 2 [ba] = true) (h4 : inL 0 5000 [fe] = true) (h5 : inL 0 10000 [ta] = true) (h6 : inL 0 1099511627776 [re, ad] = true) (h7 : inL 0 600 [cu] = false) (w : World) :
    Calls Try.prog 17 #[NumT.v ⟨yr, mo, ba, fe, re, ta, ad, cu, t0, t1, t2, t3, t4⟩ l n a b c] w fun e w' => e = .returned (.bool false) ∧ Below w.heap.size w w' := by
  unfold NumT.v
  simp only
  have P1 : Hid (WithinC 1 9000 1 #[.int .i64 yr] true) := withinC h1 rfl (by decide)
  have P2 : Hid (WithinC 1 12 1 #[.int .i64 mo] true) := withinC h2 rfl (by decide)
  have P3 : Hid (WithinC 0 2 1 #[.int .i64 ba] true) := withinC h3 rfl (by decide)
  have P4 : Hid (WithinC 0 5000 1 #[.int .i64 fe] true) := withinC h4 rfl (by decide)
  have P5 : Hid (WithinC 0 10000 1 #[.int .i64 ta] true) := withinC h5 rfl (by decide)
  have P6 : Hid (WithinC 0 1099511627776 2 #[.int .i64 re, .int .i64 ad] true) := withinC h6 rfl (by decide)
  have P7 : Hid (WithinC 0 600 1 #[.int .i64 cu] false) := withinC h7 rfl (by decide)
  clear h1 h2 h3 h4 h5 h6 h7
  go_enter Try.func17, Try.ntmps17
  go_upto_region 2 with fail
  refine wp_letter (fun wx => ∃ g h, w.heap.size = g ∧ g + 1 = h ∧ NumB g h ⟨yr, mo, ba, fe, re, ta, ad, cu, t0, t1, t2, t3, t4⟩ l n a b c wx ∧ Below w.heap.size w wx) ⟨_, _, rfl, rfl, ⟨(Blk.fresh _ _ (NumT.f ⟨yr, mo, ba, fe, re, ta, ad, cu, t0, t1, t2, t3, t4⟩ l n a b c)).alloc _, Blk.fresh2 _ _ _ _⟩, below_alloc (below_alloc (Below.refl _ _) _) _⟩ ?_
  rintro W ⟨g, h, eg, eh, N, hB⟩
  rw [eg, eh]
  clear eg eh
  have cyr := N.d.cell 0 _ rfl
  go_wp2_with (first | (with_reducible refine P1.out _ _ (fun w1 d1 => ?_); replace hB := below_then hB d1; replace N := N.then d1; have cmo := N.d.cell 1 _ rfl) | (with_reducible refine P2.out _ _ (fun w2 d2 => ?_); replace hB := below_then hB d2; replace N := N.then d2; have cba := N.d.cell 2 _ rfl) | (with_reducible refine P3.out _ _ (fun w3 d3 => ?_); replace hB := below_then hB d3; replace N := N.then d3; have cfe := N.d.cell 5 _ rfl) | (with_reducible refine P4.out _ _ (fun w4 d4 => ?_); replace hB := below_then hB d4; replace N := N.then d4; have cta := N.d.cell 7 _ rfl) | (with_reducible refine P5.out _ _ (fun w5 d5 => ?_); replace hB := below_then hB d5; replace N := N.then d5; have cre := N.d.cell 6 _ rfl; have cad := N.d.cell 8 _ rfl) | (with_reducible refine P6.out _ _ (fun w6 d6 => ?_); replace hB := below_then hB d6; replace N := N.then d6; have ccu := N.d.cell 9 _ rfl) | (with_reducible refine P7.out _ _ (fun w7 d7 => ?_); replace hB := below_then hB d7; replace N := N.then d7; have ct0 := N.t.cell 0 _ rfl; have ct1 := N.t.cell 1 _ rfl; have ct2 := N.t.cell 2 _ rfl; have ct3 := N.t.cell 3 _ rfl; have ct4 := N.t.cell 4 _ rfl))
  go_ret
  exact ⟨rfl, hB⟩
set_option maxHeartbeats 4000000 in
theorem rnums_8 (l n a b c : Value) (yr mo ba fe re ta ad cu t0 t1 t2 t3 t4 : Int) (A : Bool) (h1 : inL 1 9000 [yr] = true) (h2 : inL 1 12 [mo] = true) (h3 : inL 0 2 [ba] = true) (h4 : inL 0 5000 [fe] = true) (h5 : inL 0 10000 [ta] = true) (h6 : inL 0 1099511627776 [re, ad] = true) (h7 : inL 0 600 [cu] = true) (h8 : inL 0 100000 [t0, t1, t2, t3, t4] = A) (w : World) :
    Calls Try.prog 17 #[NumT.v ⟨yr, mo, ba, fe, re, ta, ad, cu, t0, t1, t2, t3, t4⟩ l n a b c] w fun e w' => e = .returned (.bool A) ∧ Below w.heap.size w w' := by
  unfold NumT.v
  simp only
  have P1 : Hid (WithinC 1 9000 1 #[.int .i64 yr] true) := withinC h1 rfl (by decide)
  have P2 : Hid (WithinC 1 12 1 #[.int .i64 mo] true) := withinC h2 rfl (by decide)
  have P3 : Hid (WithinC 0 2 1 #[.int .i64 ba] true) := withinC h3 rfl (by decide)
  have P4 : Hid (WithinC 0 5000 1 #[.int .i64 fe] true) := withinC h4 rfl (by decide)
  have P5 : Hid (WithinC 0 10000 1 #[.int .i64 ta] true) := withinC h5 rfl (by decide)
  have P6 : Hid (WithinC 0 1099511627776 2 #[.int .i64 re, .int .i64 ad] true) := withinC h6 rfl (by decide)
  have P7 : Hid (WithinC 0 600 1 #[.int .i64 cu] true) := withinC h7 rfl (by decide)
  have P8 : Hid (WithinC 0 100000 5 #[.int .i64 t0, .int .i64 t1, .int .i64 t2, .int .i64 t3, .int .i64 t4] A) := withinC h8 rfl (by decide)
  clear h1 h2 h3 h4 h5 h6 h7 h8
  go_enter Try.func17, Try.ntmps17
  go_upto_region 2 with fail
  refine wp_letter (fun wx => ∃ g h, w.heap.size = g ∧ g + 1 = h ∧ NumB g h ⟨yr, mo, ba, fe, re, ta, ad, cu, t0, t1, t2, t3, t4⟩ l n a b c wx ∧ Below w.heap.size w wx) ⟨_, _, rfl, rfl, ⟨(Blk.fresh _ _ (NumT.f ⟨yr, mo, ba, fe, re, ta, ad, cu, t0, t1, t2, t3, t4⟩ l n a b c)).alloc _, Blk.fresh2 _ _ _ _⟩, below_alloc (below_alloc (Below.refl _ _) _) _⟩ ?_
  rintro W ⟨g, h, eg, eh, N, hB⟩
  rw [eg, eh]
  clear eg eh
  have cyr := N.d.cell 0 _ rfl
  go_wp2_with (first | (with_reducible refine P1.out _ _ (fun w1 d1 => ?_); replace hB := below_then hB d1; replace N := N.then d1; have cmo := N.d.cell 1 _ rfl) | (with_reducible refine P2.out _ _ (fun w2 d2 => ?_); replace hB := below_then hB d2; replace N := N.then d2; have cba := N.d.cell 2 _ rfl) | (with_reducible refine P3.out _ _ (fun w3 d3 => ?_); replace hB := below_then hB d3; replace N := N.then d3; have cfe := N.d.cell 5 _ rfl) | (with_reducible refine P4.out _ _ (fun w4 d4 => ?_); replace hB := below_then hB d4; replace N := N.then d4; have cta := N.d.cell 7 _ rfl) | (with_reducible refine P5.out _ _ (fun w5 d5 => ?_); replace hB := below_then hB d5; replace N := N.then d5; have cre := N.d.cell 6 _ rfl; have cad := N.d.cell 8 _ rfl) | (with_reducible refine P6.out _ _ (fun w6 d6 => ?_); replace hB := below_then hB d6; replace N := N.then d6; have ccu := N.d.cell 9 _ rfl) | (with_reducible refine P7.out _ _ (fun w7 d7 => ?_); replace hB := below_then hB d7; replace N := N.then d7; have ct0 := N.t.cell 0 _ rfl; have ct1 := N.t.cell 1 _ rfl; have ct2 := N.t.cell 2 _ rfl; have ct3 := N.t.cell 3 _ rfl; have ct4 := N.t.cell 4 _ rfl) | (with_reducible refine P8.out _ _ (fun w8 d8 => ?_); replace hB := below_then hB d8; replace N := N.then d8))
  go_ret
  exact ⟨rfl, hB⟩
theorem rnums_any (l n a b c : Value) (t : NumT) (w : World) :
    Calls Try.prog 17 #[t.v l n a b c] w fun e w' => e = .returned (.bool t.ok) ∧ Below w.heap.size w w' := by
  obtain ⟨V, hV⟩ : ∃ V, t.ok = V := ⟨_, rfl⟩
  rw [hV]
  unfold NumT.ok at hV
  obtain ⟨yr, mo, ba, fe, re, ta, ad, cu, t0, t1, t2, t3, t4⟩ := t
  simp only at hV
  by_cases g1 : inL 1 9000 [yr] = true
  case neg =>
    rw [Bool.not_eq_true] at g1
    have e : V = false := by rw [← hV, g1]; rfl
    subst e
    exact rnums_1 l n a b c yr mo ba fe re ta ad cu t0 t1 t2 t3 t4 g1 w
  by_cases g2 : inL 1 12 [mo] = true
  case neg =>
    rw [Bool.not_eq_true] at g2
    have e : V = false := by rw [← hV, g1, g2]; rfl
    subst e
    exact rnums_2 l n a b c yr mo ba fe re ta ad cu t0 t1 t2 t3 t4 g1 g2 w
  by_cases g3 : inL 0 2 [ba] = true
  case neg =>
    rw [Bool.not_eq_true] at g3
    have e : V = false := by rw [← hV, g1, g2, g3]; rfl
    subst e
    exact rnums_3 l n a b c yr mo ba fe re ta ad cu t0 t1 t2 t3 t4 g1 g2 g3 w
  by_cases g4 : inL 0 5000 [fe] = true
  case neg =>
    rw [Bool.not_eq_true] at g4
    have e : V = false := by rw [← hV, g1, g2, g3, g4]; rfl
    subst e
    exact rnums_4 l n a b c yr mo ba fe re ta ad cu t0 t1 t2 t3 t4 g1 g2 g3 g4 w
  by_cases g5 : inL 0 10000 [ta] = true
  case neg =>
    rw [Bool.not_eq_true] at g5
    have e : V = false := by rw [← hV, g1, g2, g3, g4, g5]; rfl
    subst e
    exact rnums_5 l n a b c yr mo ba fe re ta ad cu t0 t1 t2 t3 t4 g1 g2 g3 g4 g5 w
  by_cases g6 : inL 0 1099511627776 [re, ad] = true
  case neg =>
    rw [Bool.not_eq_true] at g6
    have e : V = false := by rw [← hV, g1, g2, g3, g4, g5, g6]; rfl
    subst e
    exact rnums_6 l n a b c yr mo ba fe re ta ad cu t0 t1 t2 t3 t4 g1 g2 g3 g4 g5 g6 w
  by_cases g7 : inL 0 600 [cu] = true
  case neg =>
    rw [Bool.not_eq_true] at g7
    have e : V = false := by rw [← hV, g1, g2, g3, g4, g5, g6, g7]; rfl
    subst e
    exact rnums_7 l n a b c yr mo ba fe re ta ad cu t0 t1 t2 t3 t4 g1 g2 g3 g4 g5 g6 g7 w
  rw [g1, g2, g3, g4, g5, g6, g7] at hV
  exact rnums_8 l n a b c yr mo ba fe re ta ad cu t0 t1 t2 t3 t4 V g1 g2 g3 g4 g5 g6 g7 (by rw [← hV]; rfl) w
end Go.Proofs.Ytamdmicdieeolaa
