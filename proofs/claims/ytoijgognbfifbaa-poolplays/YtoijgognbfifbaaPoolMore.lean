/-
  Package pool: the walks of New, Balance, Lost, Loans, Copy, Find.
-/
import Derived.Test.YtoijgognbfifbaaPoolApply
namespace Go.Proofs.Ytoijgognbfifbaa
open Go.RowKit

/-- A loan as it is handed in. -/
structure LnT where
  id : Int
  bal : Int
def LnT.f (x : LnT) : List Value := [.int .i64 x.id, .int .i64 x.bal]
theorem LnT.len (x : LnT) : x.f.length = 2 := rfl
theorem LnT.one (x : LnT) : ∀ u ∈ x.f, u.oneCell' = true := by
  intro u hu
  simp only [LnT.f, List.mem_cons, List.not_mem_nil, or_false] at hu
  rcases hu with rfl | rfl <;> rfl
/-- As it begins. -/
def LnT.begin (x : LnT) : LoanP := ⟨x.id, x.bal, 0, 0, false⟩
/-- The loans so far begun, of n. -/
def rowN (xs : List LnT) (k : Nat) : List LoanP := (xs.take k).map LnT.begin ++ List.replicate (xs.length - k) LoanP.zero
theorem rowN_all (xs : List LnT) : rowN xs xs.length = xs.map LnT.begin := by simp [rowN]
theorem rowN_start (xs : List LnT) : rowN xs 0 = List.replicate xs.length LoanP.zero := by simp [rowN]
theorem rowN_length (xs : List LnT) (k : Nat) (h : k ≤ xs.length) : (rowN xs k).length = xs.length := by
  simp [rowN]
  omega
theorem rowN_at (xs : List LnT) (k : Nat) (h : k < xs.length) : (rowN xs k)[k]? = some LoanP.zero := by
  unfold rowN
  have e : ((xs.take k).map LnT.begin).length = k := by rw [List.length_map, List.length_take]; omega
  rw [List.getElem?_append_right (by omega), e, Nat.sub_self, List.getElem?_replicate, if_pos (by omega)]
theorem rowN_next (xs : List LnT) (k : Nat) (x : LnT) (h : xs[k]? = some x) : (rowN xs k).set k x.begin = rowN xs (k + 1) := by
  obtain ⟨hk, rfl⟩ := List.getElem?_eq_some_iff.1 h
  unfold rowN
  obtain ⟨m, hm⟩ : ∃ m, xs.length - k = m + 1 := ⟨xs.length - k - 1, by omega⟩
  rw [hm, show xs.length - (k + 1) = m by omega, List.replicate_succ, List.take_succ_eq_append_getElem hk]
  have e : ((xs.take k).map LnT.begin).length = k := by rw [List.length_map, List.length_take]; omega
  rw [List.set_append_right _ _ (by omega), e, Nat.sub_self, List.set_cons_zero, List.map_append, List.append_assoc]
  rfl
theorem made_loans (n : Nat) : (madeCells (Value.agg #[.int .i64 0, .int .i64 0, .int .i64 0, .int .i64 0, .bool false]).cells (n * 5)).toList = (List.replicate n LoanP.zero).flatMap LoanP.f := by
  have hl : ((List.replicate n LoanP.zero).flatMap LoanP.f).length = n * 5 := by rw [flat_length LoanP.len, List.length_replicate]
  apply List.ext_getElem?
  intro i
  by_cases hi : i < n * 5
  · have hq : i / 5 < n := (Nat.div_lt_iff_lt_mul (by omega)).2 hi
    have hr : i % 5 < 5 := Nat.mod_lt _ (by omega)
    have hd : i / 5 * 5 + i % 5 = i := by omega
    have h1 := flat_at LoanP.len (List.replicate n LoanP.zero) (i / 5) (i % 5) LoanP.zero (by simp [hq]) hr
    rw [hd] at h1
    rw [h1]
    have h5 : i % 5 = 0 ∨ i % 5 = 1 ∨ i % 5 = 2 ∨ i % 5 = 3 ∨ i % 5 = 4 := by omega
    rcases h5 with h | h | h | h | h <;> simp [madeCells, Value.cells, LoanP.f, LoanP.zero, hi, h]
  · rw [List.getElem?_eq_none (by simp [size_madeCells]; omega), List.getElem?_eq_none (by omega)]
/-- One loan of a slice of them, as it lies there. -/
theorem Lies.ln {w : World} {a : Option Addr} {n cap : Nat} {xs : List LnT} (h : Lies 2 LnT.f w (.slice a n cap) xs) (k : Nat) (hk : k < n) :
    ∃ b off x, a = some ⟨b, off, none⟩ ∧ xs[k]? = some x ∧ x ∈ xs ∧ w.cell? ⟨b, off + k * 2, none⟩ = some (.int .i64 x.id) ∧ w.cell? ⟨b, off + k * 2 + 1, none⟩ = some (.int .i64 x.bal) := by
  obtain ⟨b, off, rfl, hc⟩ := h.place (by omega)
  have hl := h.len
  have hx : xs[k]? = some (xs[k]'(by omega)) := List.getElem?_eq_getElem (by omega)
  have c := hc k _ hx
  have c0 := c 0 _ rfl
  rw [Nat.add_zero] at c0
  exact ⟨b, off, _, rfl, hx, List.getElem_mem _, c0, c 1 _ rfl⟩
theorem own_begin {w : World} {base g cap n k : Nat} {e : TypeId} {xs : List LnT} {x : LnT} (h : w.ownsRow base e 5 (.slice (some ⟨g, 0, none⟩) n cap) n ((rowN xs k).flatMap LoanP.f)) (hk : k < xs.length) (hx : xs[k]? = some x) :
    ((w.setCell ⟨g, k * 5, none⟩ (.int .i64 x.id)).setCell ⟨g, k * 5 + 1, none⟩ (.int .i64 x.bal)).ownsRow base e 5 (.slice (some ⟨g, 0, none⟩) n cap) n ((rowN xs (k + 1)).flatMap LoanP.f) := by
  have r1 := flat_set LoanP.len (x := LoanP.zero) (x' := ⟨x.id, 0, 0, 0, false⟩) (j := 0) (u := .int .i64 x.id) rfl (by omega) (rowN xs k) k (rowN_at xs k hk)
  have hl := rowN_length xs k (by omega)
  have r2 := flat_set LoanP.len (x := ⟨x.id, 0, 0, 0, false⟩) (x' := x.begin) (j := 1) (u := .int .i64 x.bal) rfl (by omega) ((rowN xs k).set k ⟨x.id, 0, 0, 0, false⟩) k (by simp [hl, hk])
  rw [List.set_set, rowN_next xs k x hx] at r2
  rw [Nat.add_zero] at r1
  have s1 := (h.stored (k * 5) (.int .i64 x.id)).1
  rw [r1] at s1
  have s2 := (s1.stored (k * 5 + 1) (.int .i64 x.bal)).1
  rw [r2] at s2
  exact s2

set_option maxHeartbeats 2000000 in
theorem new_any (v : Value) (xs : List LnT) (w : World) (h : Lies 2 LnT.f w v xs) (hl : xs.length ≤ 1000) :
    Calls Try.prog 7 #[v] w fun e w' => ∃ b, e = .returned (.pointer (some ⟨b, 0, none⟩)) ∧ w.heap.size ≤ b ∧ Below w.heap.size w w' ∧ PoolM w' b (xs.map LnT.begin) := by
  obtain ⟨i0, hi, hz0, hz1, hz2⟩ := info_parts Try.info_loan
  obtain ⟨a, cap, rfl, _, _, _, _⟩ := id h
  obtain ⟨n, hn⟩ : ∃ n, xs.length = n := ⟨_, rfl⟩
  rw [hn] at h hl ⊢
  have HN : Hid (xs.length = n) := hn
  have HL : Hid (Lies 2 LnT.f w (.slice a n cap) xs) := h
  have hm : n ≤ 9223372036854775807 := by omega
  clear h hn
  go_enter Try.func7, Try.ntmps7
  go_upto_region 2 with (at_make; refine wpList_make_full _ rfl _ _ 55 rfl w.heap.size 58 i0 (.agg #[.int .i64 0, .int .i64 0, .int .i64 0, .int .i64 0, .bool false]) 5 Try.underlying55 hi hz0 hz1 .i64 .i64 _ _ n rfl rfl (by simp) (by simp) (by rw [hz2]; omega) (by unfold maxLen; omega) (Nat.le_refl _) ?_; intro w1 o1 g1)
  have b1 : Below w.heap.size w w1 := below_grown (Below.refl _ _) g1 (fun k hk => by simp at hk)
  rw [made_loans] at o1
  obtain ⟨G, hG⟩ : ∃ G, w.heap.size = G := ⟨_, rfl⟩
  have hGw : w.heap.size ≤ G := Nat.le_of_eq hG
  have O1 : Hid (w1.ownsRow w.heap.size 58 5 (.slice (some ⟨G, 0, none⟩) n n) n ((rowN xs 0).flatMap LoanP.f)) := by
    show w1.ownsRow w.heap.size 58 5 (.slice (some ⟨G, 0, none⟩) n n) n ((rowN xs 0).flatMap LoanP.f)
    rw [rowN_start, HN.out, ← hG]
    exact o1
  rw [hG]
  clear o1 g1 hG hi hz0 hz1 hz2
  go_wp2_with fail
  go_loopw [11] (fun i wr => ∃ k : Nat, k ≤ n ∧ i = .int .i64 k ∧ Below w.heap.size w wr ∧ wr.ownsRow w.heap.size 58 5 (.slice (some ⟨G, 0, none⟩) n n) n ((rowN xs k).flatMap LoanP.f)) (fun i _ => n - (intOf i).toNat)
  case atStart => exact ⟨0, Nat.zero_le _, rfl, b1, O1.out⟩
  case round =>
  clear b1 O1
  obtain ⟨k, hk, rfl, hB, hO⟩ := hrel
  by_cases hlt : k < n
  · obtain ⟨b, off, x, rfl, hx, _, c0, c1⟩ := HL.out.ln k hlt
    replace c0 := cell_keep hB c0
    replace c1 := cell_keep hB c1
    have hkx : k < xs.length := by have := HN.out; omega
    go_upto_region 5 with fail
    refine wp_letter (fun wx => ∃ Q, wr.heap.size = Q ∧ Blk wx Q 25 x.f ∧ Below w.heap.size w wx ∧ wx.ownsRow w.heap.size 58 5 (.slice (some ⟨G, 0, none⟩) n n) n ((rowN xs k).flatMap LoanP.f)) ⟨_, rfl, Blk.fresh _ _ _, below_alloc hB _, hO.alloc _⟩ ?_
    have hGs := (hO.lt G rfl).2
    clear c0 c1 hB hO
    rintro X ⟨Q, eQ, bQ, hB, hO⟩
    rw [eQ]
    have q0 := bQ.cell 0 _ rfl; have q1 := bQ.cell 1 _ rfl
    obtain ⟨z0, z1, _⟩ := own_loan hO (rowN_length xs k (by omega)|>.trans HN.out) (rowN_at xs k hkx)
    have f0 := hO.frozenAt (k * 5); have f1 := hO.frozenAt (k * 5 + 1)
    have HB : Hid (Below w.heap.size w ((X.setCell ⟨G, k * 5, none⟩ (.int .i64 x.id)).setCell ⟨G, k * 5 + 1, none⟩ (.int .i64 x.bal))) := (hB.setCell hGw _).setCell hGw _
    have HO : Hid (((X.setCell ⟨G, k * 5, none⟩ (.int .i64 x.id)).setCell ⟨G, k * 5 + 1, none⟩ (.int .i64 x.bal)).ownsRow w.heap.size 58 5 (.slice (some ⟨G, 0, none⟩) n n) n ((rowN xs (k + 1)).flatMap LoanP.f)) := own_begin hO hkx hx
    clear hB hO hx bQ
    go_wp2
    go_roundw
    case rel => exact ⟨k + 1, by omega, by go_num, HB.out, HO.out⟩
    case measure => simp [intOf]; omega
  · obtain rfl : k = n := by omega
    have HO : Hid (wr.ownsRow w.heap.size 58 5 (.slice (some ⟨G, 0, none⟩) k k) k ((xs.map LnT.begin).flatMap LoanP.f)) := by
      show wr.ownsRow w.heap.size 58 5 (.slice (some ⟨G, 0, none⟩) k k) k ((xs.map LnT.begin).flatMap LoanP.f)
      have e := rowN_all xs
      rw [HN.out] at e
      rw [← e]
      exact hO
    have hGs := (hO.lt G rfl).2
    clear hO
    go_wp2
    go_ret
    refine ⟨_, rfl, hB.size, below_alloc hB _, .slice (some ⟨G, 0, none⟩) k k, Blk.fresh _ _ _, own_lies LoanP.len (HO.out.alloc _) (by rw [List.length_map]; exact HN.out), fun e => ?_⟩
    simp [Value.ownBlock] at e
    omega

set_option maxHeartbeats 1000000 in
theorem loans_any (b : Nat) (p : List LoanP) (w : World) (hP : PoolM w b p) (hn : p.length ≤ 1000) :
    Calls Try.prog 19 #[.pointer (some ⟨b, 0, none⟩)] w fun e w' => ∃ v', e = .returned v' ∧ w'.ownsRow w.heap.size 58 5 v' p.length (p.flatMap LoanP.f) ∧ Below w.heap.size w w' := by
  obtain ⟨v, bP, lP, _⟩ := hP
  have p0 := bP.cell 0 _ rfl
  go_enter Try.func19, Try.ntmps19
  go_wp2_with (go_at_call 24; refine (clone_any v p _ lP hn).mono ?_; rintro e w2 ⟨v', rfl, ow, d2⟩)
  go_ret
  exact ⟨_, rfl, ow, d2⟩

/-- How things stand: the pool at gP. -/
structure OvM (w wx : World) (g : Nat) (p : List LoanP) : Prop where
  below : Below w.heap.size w wx
  low : w.heap.size ≤ g
  pool : PoolM wx g p
theorem OvM.then {w wx wy : World} {g : Nat} {p : List LoanP} (h : OvM w wx g p) (k : Below wx.heap.size wx wy) : OvM w wy g p := ⟨below_then h.below k, h.low, h.pool.below k⟩
theorem OvM.on {w wx wy : World} {g : Nat} {p q : List LoanP} (h : OvM w wx g p) (k : Rest g wx wy) (hq : PoolM wy g q) : OvM w wy g q := ⟨k.below h.below h.low h.below.size, h.low, hq⟩
theorem OvM.alloc {w wx : World} {g : Nat} {p : List LoanP} (h : OvM w wx g p) (o : Obj) : OvM w (wx.alloc o) g p := h.then (below_alloc (Below.refl _ _) _)

set_option maxHeartbeats 1000000 in
theorem copy_any (b : Nat) (p : List LoanP) (w : World) (hP : PoolM w b p) (hn : p.length ≤ 1000) :
    Calls Try.prog 20 #[.pointer (some ⟨b, 0, none⟩)] w fun e w' => ∃ c, e = .returned (.pointer (some ⟨c, 0, none⟩)) ∧ w.heap.size ≤ c ∧ Below w.heap.size w w' ∧ PoolM w' c p ∧ ∀ g, g < w.heap.size → PoolX w' c p g := by
  go_enter Try.func20, Try.ntmps20
  go_upto_region 1 with fail
  go_wp2_with ((go_at_call 19; refine (loans_any b p _ hP hn).mono ?_; rintro e w2 ⟨v', rfl, ow, d2⟩; rcases own_shape ow with rfl | ⟨cap, g, rfl⟩))
  all_goals
    go_wp2
    go_ret
    refine ⟨_, rfl, d2.size, below_alloc d2 _, ⟨_, Blk.fresh _ _ _, own_lies LoanP.len (ow.alloc _) rfl, fun e => by have := (ow.lt _ e).2; omega⟩, fun h hh => ⟨_, Blk.fresh _ _ _, own_lies LoanP.len (ow.alloc _) rfl, fun e => by have := (ow.lt _ e).2; omega, fun e => by have := (ow.lt _ e).1; omega, by have := d2.size; omega⟩⟩

/-- What Find tells. -/
def findP (id : Int) (p : List LoanP) : Value := match atP id p with
  | none => .tuple #[LoanP.zero.v, .bool false]
  | some i => .tuple #[(p.getD i LoanP.zero).v, .bool true]
theorem find_fin {w X : World} {g : Nat} (L : LoanP) (ok : Bool) (b2 : Blk X g 58 LoanP.zero.f) (hW : Below w.heap.size w X) (hg : w.heap.size ≤ g) (tmps : Array Value) (h4 : tmps[4]?.getD undef = .pointer (some ⟨g, 0, none⟩)) (h5 : tmps[5]?.getD undef = .bool ok) :
    bodyPost Try.prog Try.f21 (fun e w' => e = .returned (.tuple #[L.v, .bool ok]) ∧ Below w.heap.size w w') Exit.ret { tmps := tmps, defers := [] } (((((X.setCell ⟨g, 0, none⟩ (.int .i64 L.id)).setCell ⟨g, 1, none⟩ (.int .i64 L.bal)).setCell ⟨g, 2, none⟩ (.int .i64 L.lost)).setCell ⟨g, 3, none⟩ (.int .i64 L.late)).setCell ⟨g, 4, none⟩ (.bool L.over)) := by
  have k2 : Blk (((((X.setCell ⟨g, 0, none⟩ (.int .i64 L.id)).setCell ⟨g, 1, none⟩ (.int .i64 L.bal)).setCell ⟨g, 2, none⟩ (.int .i64 L.lost)).setCell ⟨g, 3, none⟩ (.int .i64 L.late)).setCell ⟨g, 4, none⟩ (.bool L.over)) g 58 L.f := Blk.put5 b2 _ _ _ _ _
  have z0 := k2.cell 0 _ rfl; have z1 := k2.cell 1 _ rfl; have z2 := k2.cell 2 _ rfl; have z3 := k2.cell 3 _ rfl; have z4 := k2.cell 4 _ rfl
  have q := (Rest.put5 g X (.int .i64 L.id) (.int .i64 L.bal) (.int .i64 L.lost) (.int .i64 L.late) (.bool L.over)).below hW hg hW.size
  generalize (((((X.setCell ⟨g, 0, none⟩ (.int .i64 L.id)).setCell ⟨g, 1, none⟩ (.int .i64 L.bal)).setCell ⟨g, 2, none⟩ (.int .i64 L.lost)).setCell ⟨g, 3, none⟩ (.int .i64 L.late)).setCell ⟨g, 4, none⟩ (.bool L.over)) = Y at z0 z1 z2 z3 z4 q
  exact bodyPost_ret (v := .tuple #[L.v, .bool ok]) (by simp [results, Try.results21, go_sem, h4, h5, z0, z1, z2, z3, z4, LoanP.v]) rfl ⟨rfl, q⟩
set_option maxHeartbeats 2000000 in
theorem find_any (b : Nat) (p : List LoanP) (n0 : Int) (w : World) (hP : PoolM w b p) (_ : p.length ≤ 1000) :
    Calls Try.prog 21 #[.pointer (some ⟨b, 0, none⟩), .int .i64 n0] w fun e w' => e = .returned (findP n0 p) ∧ Below w.heap.size w w' := by
  obtain ⟨v, bP, lP, _⟩ := hP
  have HL : Hid (Lies 5 LoanP.f w v p) := lP
  go_enter Try.func21, Try.ntmps21
  go_upto_region 1 with fail
  refine wp_letter (fun wx => ∃ g, w.heap.size = g ∧ Blk wx g 58 LoanP.zero.f ∧ Below w.heap.size w wx) ⟨_, rfl, Blk.fresh _ _ LoanP.zero.f, below_alloc (Below.refl _ _) _⟩ ?_
  rintro W ⟨g, eg, bg, hW⟩
  rw [eg]
  have hg : w.heap.size ≤ g := Nat.le_of_eq eg
  have hbg : b ≠ g := by have := bP.lt; omega
  have bPW := bP.then hW
  have p0 := bPW.cell 0 _ rfl
  clear eg lP bP
  cases hat : atP n0 p with
  | none =>
    have HV : Hid (placeV (atP n0 p) = .tuple #[.int .i64 0, .bool false]) := by show _ = _; rw [hat]; rfl
    have HF : Hid (findP n0 p = .tuple #[LoanP.zero.v, .bool false]) := by show _ = _; rw [findP, hat]
    clear hat
    go_upto_region 2 with (go_at_call 25; refine (place_any v p n0 _ (HL.out.below hW)).mono ?_; rintro e w2 ⟨rfl, d2⟩; rw [HV.out])
    have b2 := bg.then d2
    have hW2 := below_then hW d2
    have f0 := b2.frozen 0; have f1 := b2.frozen 1; have f2 := b2.frozen 2; have f3 := b2.frozen 3; have f4 := b2.frozen 4
    have y0 := b2.cell 0 _ rfl; have y1 := b2.cell 1 _ rfl; have y2 := b2.cell 2 _ rfl; have y3 := b2.cell 3 _ rfl; have y4 := b2.cell 4 _ rfl
    go_wp2
    rw [HF.out]
    exact find_fin LoanP.zero false b2 hW2 hg _ rfl rfl
  | some i =>
    obtain ⟨o, ho, -⟩ := atP_some hat
    have HV : Hid (placeV (atP n0 p) = .tuple #[.int .i64 i, .bool true]) := by show _ = _; rw [hat]; rfl
    have HF : Hid (findP n0 p = .tuple #[o.v, .bool true]) := by
      show _ = _
      rw [findP, hat]
      simp [ho]
    have hi : i < p.length := (List.getElem?_eq_some_iff.1 ho).1
    clear hat
    go_upto_region 2 with (go_at_call 25; refine (place_any v p n0 _ (HL.out.below hW)).mono ?_; rintro e w2 ⟨rfl, d2⟩; rw [HV.out])
    have b2 := bg.then d2
    have hW2 := below_then hW d2
    have f0 := b2.frozen 0; have f1 := b2.frozen 1; have f2 := b2.frozen 2; have f3 := b2.frozen 3; have f4 := b2.frozen 4
    have y0 := b2.cell 0 _ rfl; have y1 := b2.cell 1 _ rfl; have y2 := b2.cell 2 _ rfl; have y3 := b2.cell 3 _ rfl; have y4 := b2.cell 4 _ rfl
    have p2 := (bPW.then d2).cell 0 _ rfl
    obtain ⟨a, cap, rfl, _, _, _, _⟩ := id (HL.out)
    obtain ⟨lb, off, x, rfl, hx, _, c0, c1, c2, c3, c4⟩ := HL.out.loan i hi
    rw [ho] at hx
    injection hx with hx
    subst hx
    replace c0 := cell_keep hW2 c0
    replace c1 := cell_keep hW2 c1
    replace c2 := cell_keep hW2 c2
    replace c3 := cell_keep hW2 c3
    replace c4 := cell_keep hW2 c4
    obtain ⟨n, hnl⟩ : ∃ n, p.length = n := ⟨_, rfl⟩
    rw [hnl] at hi p2 p0
    clear ho
    rw [hnl]
    go_wp2
    rw [HF.out]
    exact find_fin o true b2 hW2 hg _ rfl rfl

set_option maxHeartbeats 2000000 in
theorem balance_any (b : Nat) (p : List LoanP) (w : World) (B : Int) (hP : PoolM w b p) (hW : ∀ o ∈ p, o.Wf B) (hB : B ≤ 2199023255552) (hn : p.length ≤ 64) :
    Calls Try.prog 9 #[.pointer (some ⟨b, 0, none⟩)] w fun e w' => e = .returned (.int .i64 (sumBy LoanP.bal p)) ∧ Below w.heap.size w w' := by
  obtain ⟨V, hV⟩ : ∃ V, sumBy LoanP.bal p = V := ⟨_, rfl⟩
  rw [hV]
  have HV : Hid (sumBy LoanP.bal p = V) := hV
  obtain ⟨v, bP, lP, _⟩ := hP
  obtain ⟨a, cap, rfl, _, _, _, _⟩ := id lP
  obtain ⟨n, hnl⟩ : ∃ n, p.length = n := ⟨_, rfl⟩
  rw [hnl] at lP hn bP
  have hm : n ≤ 9223372036854775807 := by omega
  have H2 : Hid (Lies 5 LoanP.f w (.slice a n cap) p) := lP
  have H4 : Hid (p.take n = p) := by show _ = _; rw [← hnl]; exact List.take_length
  have HS : Hid (∀ k, 0 ≤ sumBy LoanP.bal (p.take k) ∧ sumBy LoanP.bal (p.take k) ≤ 64 * 2199023255552) := fun k => by
    have h1 := sumBy_le LoanP.bal 2199023255552 (p.take k) (fun x hx => by have := hW x (List.mem_of_mem_take hx); exact ⟨this.b0, Int.le_trans this.b1 hB⟩)
    have h2 : (p.take k).length ≤ 64 := by rw [List.length_take]; omega
    omega
  have p0 := bP.cell 0 _ rfl
  clear lP bP hV hnl hW
  go_enter Try.func9, Try.ntmps9
  go_wp2
  go_loopw [3, 11] (fun s i wr => ∃ k : Nat, k ≤ n ∧ i = .int .i64 k ∧ s = .int .i64 (sumBy LoanP.bal (p.take k)) ∧ Below w.heap.size w wr) (fun _ i _ => n - (intOf i).toNat)
  case atStart => exact ⟨0, Nat.zero_le _, rfl, rfl, Below.refl _ _⟩
  case round =>
  obtain ⟨k, hk, rfl, rfl, hB⟩ := hrel
  have hs := HS.out k
  by_cases hlt : k < n
  · obtain ⟨g, off, x, rfl, hx, hmem, c0, c1, c2, c3, c4⟩ := H2.out.loan k hlt
    replace c0 := cell_keep hB c0
    replace c1 := cell_keep hB c1
    replace c2 := cell_keep hB c2
    replace c3 := cell_keep hB c3
    replace c4 := cell_keep hB c4
    have hs2 := HS.out (k + 1)
    have hN := sumBy_next LoanP.bal p k x hx
    generalize sumBy LoanP.bal (p.take k) = S at hs hN
    rw [hN] at hs2
    have HN : Hid (sumBy LoanP.bal (p.take (k + 1)) = S + x.bal) := hN
    clear hN hx hmem p0
    go_wp2
    go_roundw
    case rel => exact ⟨k + 1, by omega, by go_num, by rw [HN.out], below_alloc hB _⟩
    case measure => simp [intOf]; omega
  · obtain rfl : k = n := by omega
    rw [H4.out, HV.out]
    clear hs p0
    go_wp2
    go_ret
    exact ⟨rfl, hB⟩

set_option maxHeartbeats 2000000 in
theorem lost_any (b : Nat) (p : List LoanP) (w : World) (B : Int) (hP : PoolM w b p) (hW : ∀ o ∈ p, o.Wf B) (hB : B ≤ 2199023255552) (hn : p.length ≤ 64) :
    Calls Try.prog 10 #[.pointer (some ⟨b, 0, none⟩)] w fun e w' => e = .returned (.int .i64 (sumBy LoanP.lost p)) ∧ Below w.heap.size w w' := by
  obtain ⟨V, hV⟩ : ∃ V, sumBy LoanP.lost p = V := ⟨_, rfl⟩
  rw [hV]
  have HV : Hid (sumBy LoanP.lost p = V) := hV
  obtain ⟨v, bP, lP, _⟩ := hP
  obtain ⟨a, cap, rfl, _, _, _, _⟩ := id lP
  obtain ⟨n, hnl⟩ : ∃ n, p.length = n := ⟨_, rfl⟩
  rw [hnl] at lP hn bP
  have hm : n ≤ 9223372036854775807 := by omega
  have H2 : Hid (Lies 5 LoanP.f w (.slice a n cap) p) := lP
  have H4 : Hid (p.take n = p) := by show _ = _; rw [← hnl]; exact List.take_length
  have HS : Hid (∀ k, 0 ≤ sumBy LoanP.lost (p.take k) ∧ sumBy LoanP.lost (p.take k) ≤ 64 * 2199023255552) := fun k => by
    have h1 := sumBy_le LoanP.lost 2199023255552 (p.take k) (fun x hx => by have := hW x (List.mem_of_mem_take hx); exact ⟨this.l0, Int.le_trans this.l1 hB⟩)
    have h2 : (p.take k).length ≤ 64 := by rw [List.length_take]; omega
    omega
  have p0 := bP.cell 0 _ rfl
  clear lP bP hV hnl hW
  go_enter Try.func10, Try.ntmps10
  go_wp2
  go_loopw [3, 11] (fun s i wr => ∃ k : Nat, k ≤ n ∧ i = .int .i64 k ∧ s = .int .i64 (sumBy LoanP.lost (p.take k)) ∧ Below w.heap.size w wr) (fun _ i _ => n - (intOf i).toNat)
  case atStart => exact ⟨0, Nat.zero_le _, rfl, rfl, Below.refl _ _⟩
  case round =>
  obtain ⟨k, hk, rfl, rfl, hB⟩ := hrel
  have hs := HS.out k
  by_cases hlt : k < n
  · obtain ⟨g, off, x, rfl, hx, hmem, c0, c1, c2, c3, c4⟩ := H2.out.loan k hlt
    replace c0 := cell_keep hB c0
    replace c1 := cell_keep hB c1
    replace c2 := cell_keep hB c2
    replace c3 := cell_keep hB c3
    replace c4 := cell_keep hB c4
    have hs2 := HS.out (k + 1)
    have hN := sumBy_next LoanP.lost p k x hx
    generalize sumBy LoanP.lost (p.take k) = S at hs hN
    rw [hN] at hs2
    have HN : Hid (sumBy LoanP.lost (p.take (k + 1)) = S + x.lost) := hN
    clear hN hx hmem p0
    go_wp2
    go_roundw
    case rel => exact ⟨k + 1, by omega, by go_num, by rw [HN.out], below_alloc hB _⟩
    case measure => simp [intOf]; omega
  · obtain rfl : k = n := by omega
    rw [H4.out, HV.out]
    clear hs p0
    go_wp2
    go_ret
    exact ⟨rfl, hB⟩
end Go.Proofs.Ytoijgognbfifbaa
