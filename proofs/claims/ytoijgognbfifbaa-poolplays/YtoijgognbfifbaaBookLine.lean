/-
  Package cascadebook at lines: the walks of Same, Roomy, Intact.
-/
import Derived.Test.YtoijgognbfifbaaCopyMany
import Derived.Test.YtoijgognbfifbaaKeep
namespace Go.Proofs.Ytoijgognbfifbaa
open Go.RowKit

def LineT.zero : LineT := ⟨0, 0, 0, 0, 0, 0, false⟩
/-- Two lists of lines that are the same. -/
theorem sameL_any (v v' : Value) (es : List LineT) (w : World) (h : Lies 7 LineT.f w v es) (h' : Lies 7 LineT.f w v' es) :
    Calls Try.prog 30 #[v, v'] w fun e w' => e = .returned (.bool true) ∧ ∃ m, w' = w.drewN m := by
  obtain ⟨a, cap, rfl, _, _, _, _⟩ := id h
  obtain ⟨a', cap', rfl, _, _, _, _⟩ := id h'
  have hl := h.len
  unfold maxLen at hl
  obtain ⟨n, hn⟩ : ∃ n, es.length = n := ⟨_, rfl⟩
  rw [hn] at h h' ⊢
  have H : Hid (Lies 7 LineT.f w (.slice a n cap) es ∧ Lies 7 LineT.f w (.slice a' n cap') es ∧ es.length = n) := ⟨h, h', hn⟩
  have hm : n ≤ 9223372036854775807 := by omega
  clear h h' hl hn
  go_enter Try.func30, Try.ntmps30
  go_wp2
  go_loopw [5] (fun i wr => ∃ k : Nat, k ≤ n ∧ i = .int .i64 k ∧ ∃ m, wr = w.drewN m) (fun i _ => n - (intOf i).toNat)
  case atStart => exact ⟨0, Nat.zero_le _, rfl, 0, rfl⟩
  case round =>
    obtain ⟨k, hk, rfl, m, rfl⟩ := hrel
    by_cases hlt : k < n
    · obtain ⟨b, off, rfl, hc⟩ := H.out.1.place (by omega)
      obtain ⟨b', off', rfl, hc'⟩ := H.out.2.1.place (by omega)
      have hx : es[k]? = some (es[k]'(by have := H.out.2.2; omega)) := List.getElem?_eq_getElem (by have := H.out.2.2; omega)
      have c0 := hc k _ hx 0 _ rfl; have c1 := hc k _ hx 1 _ rfl; have c2 := hc k _ hx 2 _ rfl; have c3 := hc k _ hx 3 _ rfl; have c4 := hc k _ hx 4 _ rfl; have c5 := hc k _ hx 5 _ rfl; have c6 := hc k _ hx 6 _ rfl
      have d0 := hc' k _ hx 0 _ rfl; have d1 := hc' k _ hx 1 _ rfl; have d2 := hc' k _ hx 2 _ rfl; have d3 := hc' k _ hx 3 _ rfl; have d4 := hc' k _ hx 4 _ rfl; have d5 := hc' k _ hx 5 _ rfl; have d6 := hc' k _ hx 6 _ rfl
      rw [Nat.add_zero] at c0 d0
      generalize (es[k]'(by have := H.out.2.2; omega)) = x at c0 c1 c2 c3 c4 c5 c6 d0 d1 d2 d3 d4 d5 d6
      obtain ⟨x0, x1, x2, x3, x4, x5, x6⟩ := x
      simp only at c0 c1 c2 c3 c4 c5 c6 d0 d1 d2 d3 d4 d5 d6
      have k0 : (0 : Int) ≤ (k : Int) := by omega
      have k1 : (k : Int) < (n : Int) := by omega
      clear hc hc' hx
      go_wp2
      go_quiet (fail)
      go_wp2
      go_roundw
      case rel => exact ⟨k + 1, by omega, by go_num, _, rfl⟩
      case measure => simp [intOf]; omega
    · go_wp2
      go_ret
      exact ⟨rfl, _, rfl⟩

/-- The list that Roomy makes, as far as the marks are laid. -/
def roomL (es : List LineT) (mk : LineT) (j : Nat) : List LineT := es ++ List.replicate j mk ++ List.replicate (80 - j) LineT.zero
theorem roomL_next (es : List LineT) (mk : LineT) (j : Nat) (h : j < 80) : (roomL es mk j).set (es.length + j) mk = roomL es mk (j + 1) := by
  unfold roomL
  obtain ⟨m, hm⟩ : ∃ m, 80 - j = m + 1 := ⟨79 - j, by omega⟩
  rw [hm, show 80 - (j + 1) = m by omega, List.replicate_succ (n := m), List.set_append_right _ _ (by simp), List.replicate_succ']
  simp
theorem roomL_length (es : List LineT) (mk : LineT) (j : Nat) (h : j ≤ 80) : (roomL es mk j).length = es.length + 80 := by
  simp [roomL]; omega
theorem made_lines (n : Nat) : (madeCells (Value.agg #[.int .i64 0, .int .i64 0, .int .i64 0, .int .i64 0, .int .i64 0, .int .i64 0, .bool false]).cells (n * 7)).toList = (List.replicate n LineT.zero).flatMap LineT.f := by
  have hl : ((List.replicate n LineT.zero).flatMap LineT.f).length = n * 7 := by rw [flat_length LineT.len, List.length_replicate]
  apply List.ext_getElem?
  intro i
  by_cases hi : i < n * 7
  · have hq : i / 7 < n := (Nat.div_lt_iff_lt_mul (by omega)).2 hi
    have hr : i % 7 < 7 := Nat.mod_lt _ (by omega)
    have hd : i / 7 * 7 + i % 7 = i := by omega
    have h1 := flat_at LineT.len (List.replicate n LineT.zero) (i / 7) (i % 7) LineT.zero (by simp [hq]) hr
    rw [hd] at h1
    rw [h1]
    have h5 : i % 7 = 0 ∨ i % 7 = 1 ∨ i % 7 = 2 ∨ i % 7 = 3 ∨ i % 7 = 4 ∨ i % 7 = 5 ∨ i % 7 = 6 := by omega
    rcases h5 with h | h | h | h | h | h | h <;> simp [madeCells, Value.cells, LineT.f, LineT.zero, hi, h]
  · rw [List.getElem?_eq_none (by simp [size_madeCells]; omega), List.getElem?_eq_none (by omega)]

/-- What Roomy hands back: the lines, and eighty marks behind them. -/
def fullL (es : List LineT) (mk : LineT) : List LineT := es ++ List.replicate 80 mk
theorem roomL_all (es : List LineT) (mk : LineT) : roomL es mk 80 = fullL es mk := by simp [roomL, fullL]
theorem roomL_start (es : List LineT) (mk : LineT) : ((List.replicate (es.length + 80) LineT.zero).flatMap LineT.f).take 0 ++ es.flatMap LineT.f ++ ((List.replicate (es.length + 80) LineT.zero).flatMap LineT.f).drop (0 + (es.flatMap LineT.f).length) = (roomL es mk 0).flatMap LineT.f := by
  have e : List.replicate (es.length + 80) LineT.zero = List.replicate es.length LineT.zero ++ List.replicate 80 LineT.zero := by rw [List.replicate_append_replicate]
  have hl : ((List.replicate es.length LineT.zero).flatMap LineT.f).length = (es.flatMap LineT.f).length := by rw [flat_length LineT.len, flat_length LineT.len, List.length_replicate]
  rw [e, List.flatMap_append, Nat.zero_add, ← hl, List.drop_left]
  simp [roomL]
/-- One line of a block of lines. -/
theorem lines_cells {w : World} {g : Nat} {t : TypeId} {S : List LineT} (h : Blk w g t (S.flatMap LineT.f)) (i : Nat) (x : LineT) (hx : S[i]? = some x) : w.cell? ⟨g, i * 7, none⟩ = some (.int .i64 x.id) ∧ w.cell? ⟨g, i * 7 + 1, none⟩ = some (.int .i64 x.pr) ∧ w.cell? ⟨g, i * 7 + 2, none⟩ = some (.int .i64 x.pp) ∧ w.cell? ⟨g, i * 7 + 3, none⟩ = some (.int .i64 x.it) ∧ w.cell? ⟨g, i * 7 + 4, none⟩ = some (.int .i64 x.rc) ∧ w.cell? ⟨g, i * 7 + 5, none⟩ = some (.int .i64 x.lt) ∧ w.cell? ⟨g, i * 7 + 6, none⟩ = some (.bool x.df) :=
  ⟨h.cell _ _ (flat_at LineT.len S i 0 x hx (by decide)), h.cell _ _ (flat_at LineT.len S i 1 x hx (by decide)), h.cell _ _ (flat_at LineT.len S i 2 x hx (by decide)), h.cell _ _ (flat_at LineT.len S i 3 x hx (by decide)), h.cell _ _ (flat_at LineT.len S i 4 x hx (by decide)), h.cell _ _ (flat_at LineT.len S i 5 x hx (by decide)), h.cell _ _ (flat_at LineT.len S i 6 x hx (by decide))⟩
theorem LineT.laid {w : World} {g o : Nat} {x : LineT} : w.setCells g o x.f = (((((((w.setCell ⟨g, o, none⟩ (.int .i64 x.id)).setCell ⟨g, o + 1, none⟩ (.int .i64 x.pr)).setCell ⟨g, o + 2, none⟩ (.int .i64 x.pp)).setCell ⟨g, o + 3, none⟩ (.int .i64 x.it)).setCell ⟨g, o + 4, none⟩ (.int .i64 x.rc)).setCell ⟨g, o + 5, none⟩ (.int .i64 x.lt)).setCell ⟨g, o + 6, none⟩ (.bool x.df)) := rfl

set_option maxHeartbeats 2000000 in
theorem roomyL_any (v : Value) (es : List LineT) (mk : LineT) (w : World) (h : Lies 7 LineT.f w v es) (hb : es.length ≤ 1000) :
    Calls Try.prog 15 #[v, .agg #[.int .i64 mk.id, .int .i64 mk.pr, .int .i64 mk.pp, .int .i64 mk.it, .int .i64 mk.rc, .int .i64 mk.lt, .bool mk.df]] w fun e w' => ∃ g, e = .returned (.slice (some ⟨g, 0, none⟩) (es.length + 80) (es.length + 80)) ∧ w.heap.size ≤ g ∧ g < w'.heap.size ∧ Blk w' g 32 ((fullL es mk).flatMap LineT.f) ∧ Below w.heap.size w w' := by
  obtain ⟨i0, hi, hz0, hz1, hz2⟩ := info_parts Try.info_line
  obtain ⟨a, cap, rfl, _, _, hnone, _⟩ := id h
  obtain ⟨n, hn⟩ : ∃ n, es.length = n := ⟨_, rfl⟩
  rw [hn] at h hb ⊢
  have H : Hid (Lies 7 LineT.f w (.slice a n cap) es ∧ es.length = n) := ⟨h, hn⟩
  obtain ⟨m0, m1, m2, m3, m4, m5, m6⟩ := mk
  clear h hn
  go_enter Try.func15, Try.ntmps15
  go_upto_region 1 with fail
  refine wp_letter (fun wx => Below w.heap.size w wx ∧ ∃ Q, w.heap.size = Q ∧ Blk wx Q 32 (LineT.f ⟨m0, m1, m2, m3, m4, m5, m6⟩)) ⟨below_alloc (Below.refl _ _) _, _, rfl, Blk.fresh _ _ (LineT.f ⟨m0, m1, m2, m3, m4, m5, m6⟩)⟩ ?_
  rintro V ⟨hV, Q, eQ, bQ⟩
  rw [eQ]
  go_upto_region 2 with (at_make; refine wpList_make_full _ rfl _ _ 33 rfl V.heap.size 32 i0 (.agg #[.int .i64 0, .int .i64 0, .int .i64 0, .int .i64 0, .int .i64 0, .int .i64 0, .bool false]) 7 Try.underlying33 hi hz0 hz1 .i64 .i64 _ _ (n + 80) rfl rfl (by simp) (by simp) (by rw [hz2]; omega) (by unfold maxLen; omega) (Nat.le_refl _) ?_; intro w1 o1 g1)
  have b1 : Below V.heap.size V w1 := below_grown (Below.refl _ _) g1 (fun k hk => by simp at hk)
  rw [made_lines] at o1
  have hB1 := own_blk o1
  obtain ⟨G, hG⟩ : ∃ G, V.heap.size = G := ⟨_, rfl⟩
  rw [hG] at hB1 ⊢
  obtain ⟨Z, hZ⟩ : ∃ Z, (List.replicate (n + 80) LineT.zero).flatMap LineT.f = Z := ⟨_, rfl⟩
  rw [hZ] at hB1
  have hZl : Z.length = (n + 80) * 7 := by rw [← hZ, flat_length LineT.len, List.length_replicate]
  obtain ⟨cs, hcs⟩ : ∃ cs, es.flatMap LineT.f = cs := ⟨_, rfl⟩
  have hcl : cs.length = n * 7 := by rw [← hcs, flat_length LineT.len, H.out.2]
  have hb2 := below_then hV b1
  have hL := H.out.1.below hb2
  have C1 : Hid (Nat.min n (n + 80) = n) := Nat.min_eq_left (by omega)
  have C2 : Hid (cs.length = n * 7) := hcl
  have C3 : Hid (a = none → n = 0) := fun h => by have := hnone h; have := hL.len; omega
  have C4 : Hid (∀ ad, a = some ad → ∀ j v, cs[j]? = some v → w1.cell? (ad.add j) = some v) := fun ad had j v hj => by
    obtain ⟨ad', c', e, _, h2⟩ := hL.src LineT.len (by omega)
    simp only [Value.slice.injEq] at e
    rw [had] at e
    rw [← hcs] at hj
    exact h2 ad e.1.symm j v hj
  have C5 : Hid (w1.there G 0 cs.length) := hB1.there 0 _ (by omega)
  have C6 : Hid (∀ v ∈ cs, v.oneCell' = true) := by rw [← hcs]; exact flat_one LineT.one
  have C7 : Hid (Blk (w1.setCells G 0 cs) G 32 ((roomL es ⟨m0, m1, m2, m3, m4, m5, m6⟩ 0).flatMap LineT.f)) := by
    have := Blk.setCells cs 0 hB1 (by omega)
    rw [← hcs, ← hZ, ← H.out.2, roomL_start es ⟨m0, m1, m2, m3, m4, m5, m6⟩] at this
    rw [← hcs]
    exact this
  have hGw : w.heap.size ≤ G := by rw [← hG]; exact hV.size
  have hGQ : G ≠ Q := by
    have : Q < V.heap.size := bQ.lt
    omega
  have C8 : Hid (Below w.heap.size w (w1.setCells G 0 cs)) := (Rest.setCells G cs 0 w1).below hb2 hGw hb2.size
  have C9 : Hid (Blk (w1.setCells G 0 cs) Q 32 (LineT.f ⟨m0, m1, m2, m3, m4, m5, m6⟩)) := (bQ.then b1).rest (Rest.setCells G cs 0 w1) hGQ.symm
  clear hZ hcs hZl hcl hB1 hL o1 g1 b1 hb2 hV bQ hG
  go_upto_region 3 with (refine wpList_copy_many rfl (.tmp 11) (.tmp 12) 33 33 rfl 32 7 Try.underlying33 (by rw [hi]; simp [hz1]) G 0 (n + 80) (n + 80) a n cap n cs rfl rfl C1.out C2.out C3.out C4.out C5.out C6.out ?_)
  refine wp_letter (fun wx => Blk wx G 32 ((roomL es ⟨m0, m1, m2, m3, m4, m5, m6⟩ 0).flatMap LineT.f) ∧ Below w.heap.size w wx ∧ Blk wx Q 32 (LineT.f ⟨m0, m1, m2, m3, m4, m5, m6⟩)) ⟨C7.out, C8.out, C9.out⟩ ?_
  rintro Y ⟨hYb, hY, y0⟩
  clear C1 C2 C3 C4 C5 C6 C7 C8 C9
  have HR : Hid (∀ j, j ≤ 80 → (roomL es ⟨m0, m1, m2, m3, m4, m5, m6⟩ j).length = n + 80) := fun j hj => by rw [roomL_length _ _ _ hj, H.out.2]
  have HN : Hid (∀ j, j < 80 → (roomL es ⟨m0, m1, m2, m3, m4, m5, m6⟩ j).set (n + j) ⟨m0, m1, m2, m3, m4, m5, m6⟩ = roomL es ⟨m0, m1, m2, m3, m4, m5, m6⟩ (j + 1)) := fun j hj => by
    have := roomL_next es ⟨m0, m1, m2, m3, m4, m5, m6⟩ j hj
    rw [H.out.2] at this
    exact this
  go_wp2_with fail
  go_loopw [6] (fun i wr => ∃ j : Nat, j ≤ 80 ∧ i = .int .i64 (n + j) ∧ Blk wr G 32 ((roomL es ⟨m0, m1, m2, m3, m4, m5, m6⟩ j).flatMap LineT.f) ∧ Below w.heap.size w wr ∧ Blk wr Q 32 (LineT.f ⟨m0, m1, m2, m3, m4, m5, m6⟩)) (fun i _ => n + 80 - (intOf i).toNat)
  case atStart => exact ⟨0, by omega, by simp, hYb, hY, y0⟩
  case round =>
  clear hYb hY y0
  obtain ⟨j, hj, rfl, hb1, hB, bQ⟩ := hrel
  by_cases hlt : j < 80
  · have HT : PLift (wr.there G ((n + j) * 7) (#[.int .i64 m0, .int .i64 m1, .int .i64 m2, .int .i64 m3, .int .i64 m4, .int .i64 m5, .bool m6] : Array Value).size) := ⟨hb1.there _ _ (by rw [flat_length LineT.len, HR.out j hj]; simp; omega)⟩
    have H1C : PLift ((#[.int .i64 m0, .int .i64 m1, .int .i64 m2, .int .i64 m3, .int .i64 m4, .int .i64 m5, .bool m6] : Array Value).all (·.oneCell') = true) := ⟨all_oneCell_toArray (cs := LineT.f ⟨m0, m1, m2, m3, m4, m5, m6⟩) (LineT.one _)⟩
    have SF : PLift ((Try.prog.info? 32).map (·.size) = some (#[.int .i64 m0, .int .i64 m1, .int .i64 m2, .int .i64 m3, .int .i64 m4, .int .i64 m5, .bool m6] : Array Value).size) := ⟨by
      rw [hi]
      simp [hz1]⟩
    have q0 := bQ.cell 0 _ rfl; have q1 := bQ.cell 1 _ rfl; have q2 := bQ.cell 2 _ rfl; have q3 := bQ.cell 3 _ rfl; have q4 := bQ.cell 4 _ rfl; have q5 := bQ.cell 5 _ rfl; have q6 := bQ.cell 6 _ rfl
    have hput := Blk.lay LineT.len hb1 (n + j) ⟨m0, m1, m2, m3, m4, m5, m6⟩ (by rw [HR.out j hj]; omega)
    rw [HN.out j hlt] at hput
    have hr := Rest.setCells G (LineT.f ⟨m0, m1, m2, m3, m4, m5, m6⟩) ((n + j) * 7) wr
    have HP : PLift (Blk (wr.setCells G ((n + j) * 7) (LineT.f ⟨m0, m1, m2, m3, m4, m5, m6⟩)) G 32 ((roomL es ⟨m0, m1, m2, m3, m4, m5, m6⟩ (j + 1)).flatMap LineT.f)) := ⟨hput⟩
    have HB : PLift (Below w.heap.size w (wr.setCells G ((n + j) * 7) (LineT.f ⟨m0, m1, m2, m3, m4, m5, m6⟩))) := ⟨hr.below hB hGw hB.size⟩
    have HQ : PLift (Blk (wr.setCells G ((n + j) * 7) (LineT.f ⟨m0, m1, m2, m3, m4, m5, m6⟩)) Q 32 (LineT.f ⟨m0, m1, m2, m3, m4, m5, m6⟩)) := ⟨bQ.rest hr hGQ.symm⟩
    clear hput hb1 hB hr bQ
    go_upto_region 5 with (refine wpList_store_mid rfl 32 (.tmp 25) (.tmp 24) rfl G ((n + j) * 7) #[.int .i64 m0, .int .i64 m1, .int .i64 m2, .int .i64 m3, .int .i64 m4, .int .i64 m5, .bool m6] rfl rfl HT.down SF.down H1C.down ?_)
    refine wp_letter (fun wx => Blk wx G 32 ((roomL es ⟨m0, m1, m2, m3, m4, m5, m6⟩ (j + 1)).flatMap LineT.f) ∧ Below w.heap.size w wx ∧ Blk wx Q 32 (LineT.f ⟨m0, m1, m2, m3, m4, m5, m6⟩)) ⟨HP.down, HB.down, HQ.down⟩ ?_
    rintro Z ⟨hZ1, hZ2, hZ3⟩
    clear HP HB HQ q0 q1 q2 q3 q4 q5 q6
    go_wp2
    go_roundw
    case rel => exact ⟨j + 1, by omega, congrArg (Value.int .i64) (by omega), hZ1, hZ2, hZ3⟩
    case measure => simp [intOf]; omega
  · obtain rfl : j = 80 := by omega
    rw [roomL_all] at hb1
    have HP : Hid (Blk wr G 32 ((fullL es ⟨m0, m1, m2, m3, m4, m5, m6⟩).flatMap LineT.f)) := hb1
    have HB : Hid (Below w.heap.size w wr) := hB
    clear hb1 hB bQ
    go_wp2
    go_ret
    exact ⟨G, rfl, hGw, HP.out.lt, HP.out, HB.out⟩

set_option maxHeartbeats 1000000 in
/-- What Roomy made is as it was. -/
theorem intactL_any (g n cap : Nat) (v : Value) (es : List LineT) (mk : LineT) (w : World) (hn : es.length = n) (hb : n ≤ 1000) (hf : Lies 7 LineT.f w (.slice (some ⟨g, 0, none⟩) (n + 80) cap) (fullL es mk)) (hw : Lies 7 LineT.f w v es) :
    Calls Try.prog 17 #[.slice (some ⟨g, 0, none⟩) (n + 80) cap, v, .agg #[.int .i64 mk.id, .int .i64 mk.pr, .int .i64 mk.pp, .int .i64 mk.it, .int .i64 mk.rc, .int .i64 mk.lt, .bool mk.df]] w fun e w' => e = .returned (.bool true) ∧ Below w.heap.size w w' := by
  have ht := hf.take n (by omega)
  unfold fullL at ht
  rw [← hn, List.take_left, hn] at ht
  obtain ⟨a, c, rfl, _, _, _, _⟩ := id hw
  have hlen := hf.len
  rw [hn] at hw ⊢
  obtain ⟨m0, m1, m2, m3, m4, m5, m6⟩ := mk
  have hmark : ∀ i, n ≤ i → i < n + 80 → ∀ j u, (LineT.f ⟨m0, m1, m2, m3, m4, m5, m6⟩)[j]? = some u → w.cell? ⟨g, i * 7 + j, none⟩ = some u := fun i h1 h2 => by
    obtain ⟨b, off, e, hc⟩ := hf.place (by omega)
    simp only [Option.some.injEq, Addr.mk.injEq] at e
    obtain ⟨rfl, rfl, _⟩ := e
    have hx : (fullL es ⟨m0, m1, m2, m3, m4, m5, m6⟩)[i]? = some ⟨m0, m1, m2, m3, m4, m5, m6⟩ := by
      unfold fullL
      rw [List.getElem?_append_right (by omega), List.getElem?_replicate, if_pos (by omega)]
    have c0 := hc i ⟨m0, m1, m2, m3, m4, m5, m6⟩ hx
    simp only [Nat.zero_add] at c0
    exact c0
  have HM : Hid (∀ i, n ≤ i → i < n + 80 → ∀ j u, (LineT.f ⟨m0, m1, m2, m3, m4, m5, m6⟩)[j]? = some u → w.cell? ⟨g, i * 7 + j, none⟩ = some u) := hmark
  have HT : Hid (Lies 7 LineT.f w (.slice (some ⟨g, 0, none⟩) n cap) es ∧ Lies 7 LineT.f w (.slice a n c) es) := ⟨ht, hw⟩
  have hcap : n + 80 ≤ cap := hlen.2.1
  have hcap2 : cap ≤ 9223372036854775807 := by have := hlen.2.2; unfold maxLen at this; omega
  clear hmark ht hw hf hlen
  go_enter Try.func17, Try.ntmps17
  go_upto_region 1 with fail
  refine wp_letter (fun wx => Below w.heap.size w wx ∧ ∃ Q, w.heap.size = Q ∧ Blk wx Q 32 (LineT.f ⟨m0, m1, m2, m3, m4, m5, m6⟩)) ⟨below_alloc (Below.refl _ _) _, _, rfl, Blk.fresh _ _ (LineT.f ⟨m0, m1, m2, m3, m4, m5, m6⟩)⟩ ?_
  rintro V ⟨hV, Q, eQ, bQ⟩
  rw [eQ]
  clear eQ
  go_upto_region 3 with (go_at_call 30; refine (sameL_any _ _ es _ (HT.out.1.below hV) (HT.out.2.below hV)).mono ?_; rintro e w' ⟨rfl, m0, rfl⟩)
  go_wp2_with fail
  have q0 := bQ.cell 0 _ rfl; have q1 := bQ.cell 1 _ rfl; have q2 := bQ.cell 2 _ rfl; have q3 := bQ.cell 3 _ rfl; have q4 := bQ.cell 4 _ rfl; have q5 := bQ.cell 5 _ rfl; have q6 := bQ.cell 6 _ rfl
  go_loopw [7] (fun i wr => ∃ k : Nat, n ≤ k ∧ k ≤ n + 80 ∧ i = .int .i64 k ∧ ∃ m, wr = V.drewN m) (fun i _ => n + 80 - (intOf i).toNat)
  case atStart => exact ⟨n, Nat.le_refl _, by omega, rfl, _, rfl⟩
  case round =>
  obtain ⟨k, h1, h2, rfl, m, rfl⟩ := hrel
  by_cases hlt : k < n + 80
  · have hc := HM.out k h1 hlt
    have c0 := cell_keep hV (hc 0 _ rfl); have c1 := cell_keep hV (hc 1 _ rfl); have c2 := cell_keep hV (hc 2 _ rfl); have c3 := cell_keep hV (hc 3 _ rfl); have c4 := cell_keep hV (hc 4 _ rfl); have c5 := cell_keep hV (hc 5 _ rfl); have c6 := cell_keep hV (hc 6 _ rfl)
    rw [Nat.add_zero] at c0
    have k0 : (0 : Int) ≤ (k : Int) := by omega
    have k1 : (k : Int) < (n : Int) + 80 := by omega
    clear hc bQ
    go_wp2
    go_quiet (fail)
    go_wp2
    go_roundw
    case rel => exact ⟨k + 1, by omega, by omega, by go_num, _, rfl⟩
    case measure => simp [intOf]; omega
  · go_wp2
    go_ret
    exact ⟨rfl, below_draws hV _⟩
end Go.Proofs.Ytoijgognbfifbaa
