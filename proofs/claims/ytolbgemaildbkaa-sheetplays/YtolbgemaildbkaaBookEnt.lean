/-
  Package cascadebook at entries: the walks of Same, Roomy, Intact.
-/
import Derived.Test.YtolbgemaildbkaaMove
namespace Go.Proofs.Ytolbgemaildbkaa
open Go.RowKit

theorem Try.info_ent : (Try.prog.info? 27).map (fun i => (i.zero, i.size, i.bytes)) = some (some (.agg #[.int .i64 0, .int .i64 0]), 2, 16) := by kernel_rfl

/-- copy, of elements of any number of cells: all is read before anything is written. -/
theorem run_copy_many {P : Program} (w : World) (dT sT ty elem : TypeId) (m b o dLen dCap : Nat) (sp : Option Addr) (sLen sCap k : Nat) (cs : List Value)
    (hu : P.underlying dT = some (.slice elem)) (hs : (P.info? elem).map (·.size) = some m) (hk : Nat.min sLen dLen = k) (hn : cs.length = k * m) (hnone : sp = none → k = 0)
    (hsrc : ∀ a, sp = some a → ∀ j v, cs[j]? = some v → w.cell? (a.add j) = some v) (ht : w.there b o cs.length) (h1 : ∀ v ∈ cs, v.oneCell' = true) :
    (Builtin.copy_ #[dT, sT] ty #[.slice (some ⟨b, o, none⟩) dLen dCap, .slice sp sLen sCap]).run P w = .ok (goInt k) (w.setCells b o cs) := by
  have hst := run_storeCells_cells (P := P) b o cs 0 w (fun j hj => by simpa using (ht j hj).1) (fun j hj => by simpa using (ht j hj).2) h1
  cases hq : P.info? elem with
  | none => simp [hq] at hs
  | some i =>
    have hi : i.size = m := by simpa [hq] using hs
    cases sp with
    | none =>
      obtain rfl := hnone rfl
      obtain rfl : cs = [] := List.eq_nil_of_length_eq_zero (by simpa using hn)
      simp [Builtin.copy_, run_underlying hu, Builtin.lenOf, Builtin.firstCells, sizeOf, typeInfo, hq, hk, storeCells, World.setCells]
    | some a =>
      have hl := run_loadCells_list (P := P) w a cs (hsrc a rfl)
      simp [Builtin.copy_, run_underlying hu, Builtin.lenOf, Builtin.firstCells, sizeOf, typeInfo, hq, hi, hk, ← hn, hl, hst]
theorem wpList_copy_many {P : Program} {w : World} {ops : Array Oper} {rest : List Oper} {op : Oper} {a : Act} {Q : Exit → Act → World → Prop} (hgd : op.guard = none) (d s : Operand) (dT sT : TypeId)
    (ho : op.op = .call { callee := .builtin .copy, args := #[d, s], argTypes := #[dT, sT] }) (elem : TypeId) (m : Nat) (hu : P.underlying dT = some (.slice elem)) (hsz : (P.info? elem).map (·.size) = some m)
    (b o dLen dCap : Nat) (sp : Option Addr) (sLen sCap k : Nat) (cs : List Value) (hd : a.eval d = .slice (some ⟨b, o, none⟩) dLen dCap) (hs : a.eval s = .slice sp sLen sCap)
    (hk : Nat.min sLen dLen = k) (hn : cs.length = k * m) (hnone : sp = none → k = 0) (hsrc : ∀ a, sp = some a → ∀ j v, cs[j]? = some v → w.cell? (a.add j) = some v) (ht : w.there b o cs.length) (h1 : ∀ v ∈ cs, v.oneCell' = true)
    (h : wpList P ops Q rest (a.put op.dst (goInt k)) (w.setCells b o cs)) : wpList P ops Q (op :: rest) a w := by
  refine wpList_plain hgd fun K hK => ?_
  have hrun := run_copy_many (P := P) w dT sT op.type elem m b o dLen dCap sp sLen sCap k cs hu hsz hk hn hnone hsrc ht h1
  unfold Oper.wp
  simp [execOp, ho, resolve, invoke, builtin, hd, hs, hrun, Result.andThen]
  exact hK _ _ h

theorem ents_set : ∀ (S : List Ent) (i : Nat) (x : Ent), ((S.flatMap Ent.f).set (i * 2) (.int .i64 x.acc)).set (i * 2 + 1) (.int .i64 x.amt) = (S.set i x).flatMap Ent.f
  | [], i, x => by simp
  | y :: r, 0, x => by simp [Ent.f]
  | y :: r, i + 1, x => by
    have := ents_set r i x
    simp only [List.flatMap_cons, Ent.f, List.cons_append, List.nil_append, List.set_cons_succ] at this ⊢
    rw [show (i + 1) * 2 = i * 2 + 1 + 1 by omega, List.set_cons_succ, List.set_cons_succ, List.set_cons_succ, List.set_cons_succ, this]

/-- Two lists of entries that are the same. -/
theorem sameE_any (v v' : Value) (es : List Ent) (w : World) (h : Lies 2 Ent.f w v es) (h' : Lies 2 Ent.f w v' es) :
    Calls Try.prog 25 #[v, v'] w fun e w' => e = .returned (.bool true) ∧ ∃ m, w' = w.drewN m := by
  obtain ⟨a, cap, rfl, _, _, _, _⟩ := id h
  obtain ⟨a', cap', rfl, _, _, _, _⟩ := id h'
  have hl := h.len
  unfold maxLen at hl
  obtain ⟨n, hn⟩ : ∃ n, es.length = n := ⟨_, rfl⟩
  rw [hn] at h h' ⊢
  have H : Hid (Lies 2 Ent.f w (.slice a n cap) es ∧ Lies 2 Ent.f w (.slice a' n cap') es ∧ es.length = n) := ⟨h, h', hn⟩
  have hm : n ≤ 9223372036854775807 := by omega
  clear h h' hl hn
  go_enter Try.func25, Try.ntmps25
  go_wp2
  go_loopw [5] (fun i wr => ∃ k : Nat, k ≤ n ∧ i = .int .i64 k ∧ ∃ m, wr = w.drewN m) (fun i _ => n - (intOf i).toNat)
  case atStart => exact ⟨0, Nat.zero_le _, rfl, 0, rfl⟩
  case round =>
    obtain ⟨k, hk, rfl, m, rfl⟩ := hrel
    by_cases hlt : k < n
    · obtain ⟨b, off, rfl, hc⟩ := H.out.1.place (by omega)
      obtain ⟨b', off', rfl, hc'⟩ := H.out.2.1.place (by omega)
      have hx : es[k]? = some (es[k]'(by have := H.out.2.2; omega)) := List.getElem?_eq_getElem (by have := H.out.2.2; omega)
      have c0 := hc k _ hx 0 _ rfl; have c1 := hc k _ hx 1 _ rfl
      have d0 := hc' k _ hx 0 _ rfl; have d1 := hc' k _ hx 1 _ rfl
      rw [Nat.add_zero] at c0 d0
      generalize (es[k]'(by have := H.out.2.2; omega)) = x at c0 c1 d0 d1
      obtain ⟨ac, am⟩ := x
      simp only at c0 c1 d0 d1
      have k0 : (0 : Int) ≤ (k : Int) := by omega
      have k1 : (k : Int) < (n : Int) := by omega
      clear hc hc' hx
      go_wp2
      go_quiet (fail)
      go_wp2
      go_roundw
      case rel => exact ⟨k + 1, by omega, by go_num, _, rfl⟩
      case measure => simp [intOf]; omega
    · go_wp2
      go_ret
      exact ⟨rfl, _, rfl⟩

/-- The list that Roomy makes, as far as the marks are laid. -/
def roomE (es : List Ent) (mk : Ent) (j : Nat) : List Ent := es ++ List.replicate j mk ++ List.replicate (80 - j) ⟨0, 0⟩
theorem roomE_next (es : List Ent) (mk : Ent) (j : Nat) (h : j < 80) : (roomE es mk j).set (es.length + j) mk = roomE es mk (j + 1) := by
  unfold roomE
  obtain ⟨m, hm⟩ : ∃ m, 80 - j = m + 1 := ⟨79 - j, by omega⟩
  rw [hm, show 80 - (j + 1) = m by omega, List.replicate_succ (n := m), List.set_append_right _ _ (by simp), List.replicate_succ']
  simp
theorem roomE_length (es : List Ent) (mk : Ent) (j : Nat) (h : j ≤ 80) : (roomE es mk j).length = es.length + 80 := by
  simp [roomE]; omega
theorem made_ents_n (n : Nat) : (madeCells (Value.agg #[.int .i64 0, .int .i64 0]).cells (n * 2)).toList = (List.replicate n (⟨0, 0⟩ : Ent)).flatMap Ent.f := by
  have hr : ∀ u ∈ (List.replicate n (⟨0, 0⟩ : Ent)).flatMap Ent.f, u = .int .i64 0 := by
    intro u hu
    obtain ⟨x, hx, hu⟩ := List.mem_flatMap.1 hu
    rw [List.eq_of_mem_replicate hx] at hu
    simpa [Ent.f] using hu
  have hl : ((List.replicate n (⟨0, 0⟩ : Ent)).flatMap Ent.f).length = n * 2 := by rw [flat_length Ent.len, List.length_replicate]
  apply List.ext_getElem
  · rw [hl]
    simp [size_madeCells]
  · intro i h1 h2
    rw [hr _ (List.getElem_mem h2)]
    rcases Nat.mod_two_eq_zero_or_one i with h | h <;> simp [madeCells, Value.cells, h]

/-- What Roomy hands back: the entries, and eighty marks behind them. -/
def fullE (es : List Ent) (mk : Ent) : List Ent := es ++ List.replicate 80 mk
theorem roomE_all (es : List Ent) (mk : Ent) : roomE es mk 80 = fullE es mk := by simp [roomE, fullE]
theorem roomE_start (es : List Ent) (mk : Ent) : ((List.replicate (es.length + 80) (⟨0, 0⟩ : Ent)).flatMap Ent.f).take 0 ++ es.flatMap Ent.f ++ ((List.replicate (es.length + 80) (⟨0, 0⟩ : Ent)).flatMap Ent.f).drop (0 + (es.flatMap Ent.f).length) = (roomE es mk 0).flatMap Ent.f := by
  have e : List.replicate (es.length + 80) (⟨0, 0⟩ : Ent) = List.replicate es.length ⟨0, 0⟩ ++ List.replicate 80 ⟨0, 0⟩ := by rw [List.replicate_append_replicate]
  have hl : ((List.replicate es.length (⟨0, 0⟩ : Ent)).flatMap Ent.f).length = (es.flatMap Ent.f).length := by rw [flat_length Ent.len, flat_length Ent.len, List.length_replicate]
  rw [e, List.flatMap_append, Nat.zero_add, ← hl, List.drop_left]
  simp [roomE]

theorem own_blk {w : World} {base : Nat} {e : TypeId} {m g n : Nat} {xs : List Value} (h : w.ownsRow base e m (.slice (some ⟨g, 0, none⟩) n n) n xs) : Blk w g e xs := by
  rcases h.2 with ⟨h', _⟩ | ⟨g', cap, cur, e', hb, hh, _, _, hs, ht⟩
  · simp at h'
  · simp only [Value.slice.injEq, Option.some.injEq, Addr.mk.injEq] at e'
    obtain ⟨⟨rfl, _⟩, _, rfl⟩ := e'
    have : cur = xs.toArray := by
      rw [List.take_of_length_le (by simp [hs])] at ht
      rw [← ht]
    rw [this] at hh
    exact hh
/-- One entry of a block of entries. -/
theorem ents_cells {w : World} {g : Nat} {t : TypeId} {S : List Ent} (h : Blk w g t (S.flatMap Ent.f)) (i : Nat) (x : Ent) (hx : S[i]? = some x) :
    w.cell? ⟨g, i * 2, none⟩ = some (.int .i64 x.acc) ∧ w.cell? ⟨g, i * 2 + 1, none⟩ = some (.int .i64 x.amt) ∧ w.frozen? ⟨g, i * 2, none⟩ = false ∧ w.frozen? ⟨g, i * 2 + 1, none⟩ = false :=
  ⟨h.cell _ _ (flat_at Ent.len S i 0 x hx (by decide)), h.cell _ _ (flat_at Ent.len S i 1 x hx (by decide)), h.frozen _, h.frozen _⟩
theorem ents_put {w : World} {g : Nat} {t : TypeId} {S : List Ent} (h : Blk w g t (S.flatMap Ent.f)) (i : Nat) (x : Ent) :
    Blk ((w.setCell ⟨g, i * 2, none⟩ (.int .i64 x.acc)).setCell ⟨g, i * 2 + 1, none⟩ (.int .i64 x.amt)) g t ((S.set i x).flatMap Ent.f) := by
  rw [← ents_set]
  exact (h.set _ _).set _ _

set_option maxHeartbeats 2000000 in
theorem roomyE_any (v : Value) (es : List Ent) (mk : Ent) (w : World) (h : Lies 2 Ent.f w v es) (hb : es.length ≤ 1000) :
    Calls Try.prog 15 #[v, .agg #[.int .i64 mk.acc, .int .i64 mk.amt]] w fun e w' => ∃ g, e = .returned (.slice (some ⟨g, 0, none⟩) (es.length + 80) (es.length + 80)) ∧ w.heap.size ≤ g ∧ g < w'.heap.size ∧ Blk w' g 27 ((fullE es mk).flatMap Ent.f) ∧ Below w.heap.size w w' := by
  obtain ⟨i0, hi, hz0, hz1, hz2⟩ := info_parts Try.info_ent
  obtain ⟨a, cap, rfl, _, _, hnone, _⟩ := id h
  obtain ⟨n, hn⟩ : ∃ n, es.length = n := ⟨_, rfl⟩
  rw [hn] at h hb ⊢
  have H : Hid (Lies 2 Ent.f w (.slice a n cap) es ∧ es.length = n) := ⟨h, hn⟩
  obtain ⟨ma, mm⟩ := mk
  clear h hn
  go_enter Try.func15, Try.ntmps15
  go_upto_region 1 with fail
  refine wp_letter (fun wx => Below w.heap.size w wx ∧ ∃ Q, w.heap.size = Q ∧ wx.cell? ⟨Q, 0, none⟩ = some (.int .i64 ma) ∧ wx.cell? ⟨Q, 1, none⟩ = some (.int .i64 mm)) ⟨below_alloc (Below.refl _ _) _, _, rfl, by simp [go_sem], by simp [go_sem]⟩ ?_
  rintro V ⟨hV, Q, eQ, q0, q1⟩
  rw [eQ]
  go_upto_region 2 with (at_make; refine wpList_make_full _ rfl _ _ 34 rfl V.heap.size 27 i0 (.agg #[.int .i64 0, .int .i64 0]) 2 Try.underlying34 hi hz0 hz1 .i64 .i64 _ _ (n + 80) rfl rfl (by simp) (by simp) (by rw [hz2]; omega) (by unfold maxLen; omega) (Nat.le_refl _) ?_; intro w1 o1 g1)
  have b1 : Below V.heap.size V w1 := below_grown (Below.refl _ _) g1 (fun k hk => by simp at hk)
  rw [made_ents_n] at o1
  have hB1 := own_blk o1
  obtain ⟨G, hG⟩ : ∃ G, V.heap.size = G := ⟨_, rfl⟩
  rw [hG] at hB1 ⊢
  obtain ⟨Z, hZ⟩ : ∃ Z, (List.replicate (n + 80) (⟨0, 0⟩ : Ent)).flatMap Ent.f = Z := ⟨_, rfl⟩
  rw [hZ] at hB1
  have hZl : Z.length = (n + 80) * 2 := by rw [← hZ, flat_length Ent.len, List.length_replicate]
  obtain ⟨cs, hcs⟩ : ∃ cs, es.flatMap Ent.f = cs := ⟨_, rfl⟩
  have hcl : cs.length = n * 2 := by rw [← hcs, flat_length Ent.len, H.out.2]
  have hb2 := below_then hV b1
  have hL := H.out.1.below hb2
  have C1 : Hid (Nat.min n (n + 80) = n) := Nat.min_eq_left (by omega)
  have C2 : Hid (cs.length = n * 2) := hcl
  have C3 : Hid (a = none → n = 0) := fun h => by have := hnone h; have := hL.len; omega
  have C4 : Hid (∀ ad, a = some ad → ∀ j v, cs[j]? = some v → w1.cell? (ad.add j) = some v) := fun ad had j v hj => by
    obtain ⟨ad', c', e, _, h2⟩ := hL.src Ent.len (by omega)
    simp only [Value.slice.injEq] at e
    rw [had] at e
    rw [← hcs] at hj
    exact h2 ad e.1.symm j v hj
  have C5 : Hid (w1.there G 0 cs.length) := hB1.there 0 _ (by omega)
  have C6 : Hid (∀ v ∈ cs, v.oneCell' = true) := by rw [← hcs]; exact flat_one Ent.one
  have C7 : Hid (Blk (w1.setCells G 0 cs) G 27 ((roomE es ⟨ma, mm⟩ 0).flatMap Ent.f)) := by
    have := Blk.setCells cs 0 hB1 (by omega)
    rw [← hcs, ← hZ, ← H.out.2, roomE_start es ⟨ma, mm⟩] at this
    rw [← hcs]
    exact this
  have hGw : w.heap.size ≤ G := by rw [← hG]; exact hV.size
  have hGQ : G ≠ Q := by
    have : Q < V.heap.size := cell_block q0
    omega
  have C8 : Hid (Below w.heap.size w (w1.setCells G 0 cs)) := (Rest.setCells G cs 0 w1).below hb2 hGw hb2.size
  have C9 : Hid ((w1.setCells G 0 cs).cell? ⟨Q, 0, none⟩ = some (.int .i64 ma) ∧ (w1.setCells G 0 cs).cell? ⟨Q, 1, none⟩ = some (.int .i64 mm)) := by
    have r := (Rest.setCells G cs 0 w1).block Q (Nat.lt_of_lt_of_le (cell_block q0) b1.size) hGQ.symm
    exact ⟨(World.cell?_of_block (w := w1) (a := ⟨Q, 0, none⟩) r).trans (cell_keep b1 q0), (World.cell?_of_block (w := w1) (a := ⟨Q, 1, none⟩) r).trans (cell_keep b1 q1)⟩
  clear hZ hcs hZl hcl hB1 hL o1 g1 b1 hb2 hV q0 q1 hG
  go_upto_region 3 with (refine wpList_copy_many rfl (.tmp 11) (.tmp 12) 34 34 rfl 27 2 Try.underlying34 (by rw [hi]; simp [hz1]) G 0 (n + 80) (n + 80) a n cap n cs rfl rfl C1.out C2.out C3.out C4.out C5.out C6.out ?_)
  refine wp_letter (fun wx => Blk wx G 27 ((roomE es ⟨ma, mm⟩ 0).flatMap Ent.f) ∧ Below w.heap.size w wx ∧ wx.cell? ⟨Q, 0, none⟩ = some (.int .i64 ma) ∧ wx.cell? ⟨Q, 1, none⟩ = some (.int .i64 mm)) ⟨C7.out, C8.out, C9.out⟩ ?_
  rintro Y ⟨hYb, hY, y0, y1⟩
  clear C1 C2 C3 C4 C5 C6 C7 C8 C9
  have HR : Hid (∀ j, j ≤ 80 → (roomE es ⟨ma, mm⟩ j).length = n + 80) := fun j hj => by rw [roomE_length _ _ _ hj, H.out.2]
  have HN : Hid (∀ j, j < 80 → (roomE es ⟨ma, mm⟩ j).set (n + j) ⟨ma, mm⟩ = roomE es ⟨ma, mm⟩ (j + 1)) := fun j hj => by
    have := roomE_next es ⟨ma, mm⟩ j hj
    rw [H.out.2] at this
    exact this
  go_wp2_with fail
  go_loopw [6] (fun i wr => ∃ j : Nat, j ≤ 80 ∧ i = .int .i64 (n + j) ∧ Blk wr G 27 ((roomE es ⟨ma, mm⟩ j).flatMap Ent.f) ∧ Below w.heap.size w wr ∧ wr.cell? ⟨Q, 0, none⟩ = some (.int .i64 ma) ∧ wr.cell? ⟨Q, 1, none⟩ = some (.int .i64 mm)) (fun i _ => n + 80 - (intOf i).toNat)
  case atStart => exact ⟨0, by omega, by simp, hYb, hY, y0, y1⟩
  case round =>
  clear hYb hY y0 y1
  obtain ⟨j, hj, rfl, hb1, hB, q0, q1⟩ := hrel
  by_cases hlt : j < 80
  · have hx : (roomE es ⟨ma, mm⟩ j)[n + j]? = some ((roomE es ⟨ma, mm⟩ j)[n + j]'(by rw [HR.out j hj]; omega)) := List.getElem?_eq_getElem _
    obtain ⟨z0, z1, f0, f1⟩ := ents_cells hb1 (n + j) _ hx
    generalize ((roomE es ⟨ma, mm⟩ j)[n + j]'(by rw [HR.out j hj]; omega)) = x at z0 z1
    obtain ⟨xa, xm⟩ := x
    simp only at z0 z1
    have hput := ents_put hb1 (n + j) ⟨ma, mm⟩
    rw [HN.out j hlt] at hput
    have HP : Hid (Blk ((wr.setCell ⟨G, (n + j) * 2, none⟩ (.int .i64 ma)).setCell ⟨G, (n + j) * 2 + 1, none⟩ (.int .i64 mm)) G 27 ((roomE es ⟨ma, mm⟩ (j + 1)).flatMap Ent.f)) := hput
    have HB : Hid (Below w.heap.size w ((wr.setCell ⟨G, (n + j) * 2, none⟩ (.int .i64 ma)).setCell ⟨G, (n + j) * 2 + 1, none⟩ (.int .i64 mm))) := (hB.setCell hGw _).setCell hGw _
    have HQ : Hid (((wr.setCell ⟨G, (n + j) * 2, none⟩ (.int .i64 ma)).setCell ⟨G, (n + j) * 2 + 1, none⟩ (.int .i64 mm)).cell? ⟨Q, 0, none⟩ = some (.int .i64 ma) ∧ ((wr.setCell ⟨G, (n + j) * 2, none⟩ (.int .i64 ma)).setCell ⟨G, (n + j) * 2 + 1, none⟩ (.int .i64 mm)).cell? ⟨Q, 1, none⟩ = some (.int .i64 mm)) := by
      have r := ((Rest.set G ((n + j) * 2) wr (.int .i64 ma)).trans (Rest.set G ((n + j) * 2 + 1) _ (.int .i64 mm))).block Q (cell_block q0) hGQ.symm
      exact ⟨(World.cell?_of_block (w := wr) (a := ⟨Q, 0, none⟩) r).trans q0, (World.cell?_of_block (w := wr) (a := ⟨Q, 1, none⟩) r).trans q1⟩
    clear hput hb1 hB
    go_wp2
    go_roundw
    case rel => exact ⟨j + 1, by omega, congrArg (Value.int .i64) (by omega), HP.out, HB.out, HQ.out.1, HQ.out.2⟩
    case measure => simp [intOf]; omega
  · obtain rfl : j = 80 := by omega
    rw [roomE_all] at hb1
    have HP : Hid (Blk wr G 27 ((fullE es ⟨ma, mm⟩).flatMap Ent.f)) := hb1
    have HB : Hid (Below w.heap.size w wr) := hB
    clear hb1 hB q0 q1
    go_wp2
    go_ret
    exact ⟨G, rfl, hGw, HP.out.lt, HP.out, HB.out⟩

set_option maxHeartbeats 1000000 in
/-- What Roomy made is as it was. -/
theorem intactE_any (g n cap : Nat) (v : Value) (es : List Ent) (mk : Ent) (w : World) (hn : es.length = n) (hb : n ≤ 1000) (hf : Lies 2 Ent.f w (.slice (some ⟨g, 0, none⟩) (n + 80) cap) (fullE es mk)) (hw : Lies 2 Ent.f w v es) :
    Calls Try.prog 16 #[.slice (some ⟨g, 0, none⟩) (n + 80) cap, v, .agg #[.int .i64 mk.acc, .int .i64 mk.amt]] w fun e w' => e = .returned (.bool true) ∧ Below w.heap.size w w' := by
  have ht := hf.take n (by omega)
  unfold fullE at ht
  rw [← hn, List.take_left, hn] at ht
  obtain ⟨a, c, rfl, _, _, _, _⟩ := id hw
  have hlen := hf.len
  rw [hn] at hw ⊢
  have hmark : ∀ i, n ≤ i → i < n + 80 → w.cell? ⟨g, i * 2, none⟩ = some (.int .i64 mk.acc) ∧ w.cell? ⟨g, i * 2 + 1, none⟩ = some (.int .i64 mk.amt) := fun i h1 h2 => by
    obtain ⟨b, off, e, hc⟩ := hf.place (by omega)
    simp only [Option.some.injEq, Addr.mk.injEq] at e
    obtain ⟨rfl, rfl, _⟩ := e
    have hx : (fullE es mk)[i]? = some mk := by
      unfold fullE
      rw [List.getElem?_append_right (by omega), List.getElem?_replicate, if_pos (by omega)]
    have c0 := hc i mk hx 0 _ rfl
    have c1 := hc i mk hx 1 _ rfl
    simp only [Nat.zero_add, Nat.add_zero] at c0 c1
    exact ⟨c0, c1⟩
  obtain ⟨ma, mm⟩ := mk
  simp only at hmark
  have HM : Hid (∀ i, n ≤ i → i < n + 80 → w.cell? ⟨g, i * 2, none⟩ = some (.int .i64 ma) ∧ w.cell? ⟨g, i * 2 + 1, none⟩ = some (.int .i64 mm)) := hmark
  have HT : Hid (Lies 2 Ent.f w (.slice (some ⟨g, 0, none⟩) n cap) es ∧ Lies 2 Ent.f w (.slice a n c) es) := ⟨ht, hw⟩
  have hcap : n + 80 ≤ cap := hlen.2.1
  have hcap2 : cap ≤ 9223372036854775807 := by have := hlen.2.2; unfold maxLen at this; omega
  clear hmark ht hw hf hlen
  go_enter Try.func16, Try.ntmps16
  go_upto_region 1 with fail
  refine wp_letter (fun wx => Below w.heap.size w wx ∧ ∃ Q, w.heap.size = Q ∧ wx.cell? ⟨Q, 0, none⟩ = some (.int .i64 ma) ∧ wx.cell? ⟨Q, 1, none⟩ = some (.int .i64 mm)) ⟨below_alloc (Below.refl _ _) _, _, rfl, by simp [go_sem], by simp [go_sem]⟩ ?_
  rintro V ⟨hV, Q, eQ, q0, q1⟩
  rw [eQ]
  clear eQ
  go_upto_region 3 with (go_at_call 25; refine (sameE_any _ _ es _ (HT.out.1.below hV) (HT.out.2.below hV)).mono ?_; rintro e w' ⟨rfl, m0, rfl⟩)
  go_wp2_with fail
  go_loopw [7] (fun i wr => ∃ k : Nat, n ≤ k ∧ k ≤ n + 80 ∧ i = .int .i64 k ∧ ∃ m, wr = V.drewN m) (fun i _ => n + 80 - (intOf i).toNat)
  case atStart => exact ⟨n, Nat.le_refl _, by omega, rfl, _, rfl⟩
  case round =>
  obtain ⟨k, h1, h2, rfl, m, rfl⟩ := hrel
  by_cases hlt : k < n + 80
  · obtain ⟨c0, c1⟩ := HM.out k h1 hlt
    replace c0 := cell_keep hV c0
    replace c1 := cell_keep hV c1
    have k0 : (0 : Int) ≤ (k : Int) := by omega
    have k1 : (k : Int) < (n : Int) + 80 := by omega
    go_wp2
    go_quiet (fail)
    go_wp2
    go_roundw
    case rel => exact ⟨k + 1, by omega, by omega, by go_num, _, rfl⟩
    case measure => simp [intOf]; omega
  · go_wp2
    go_ret
    exact ⟨rfl, below_draws hV _⟩
end Go.Proofs.Ytolbgemaildbkaa
