/-
  Package sheet: the walk of Post.
-/
import Derived.Test.YtolbgemaildbkaaPostP
namespace Go.Proofs.Ytolbgemaildbkaa
open Go.RowKit

theorem Try.info_sums : (Try.prog.info? 55).map (fun i => (i.zero, i.size)) = some (some (.agg (sumsC (List.replicate 64 0)).toArray), 128) := by kernel_rfl
theorem Try.info_bals : (Try.prog.info? 48).map (fun i => (i.zero, i.size)) = some (some (.agg ((List.replicate 64 0).map (Value.int .i64)).toArray), 64) := by kernel_rfl

theorem index_int (bal : List Int) (hl : bal.length = 64) (k : Nat) (hk : k < 64) (w : World) :
    (Instr.index 48 (.agg (bal.map (Value.int .i64)).toArray) (.int .i64 (k : Int))).run Try.prog w = .ok (.int .i64 (bal.getD k 0)) w := by
  have h2 : k < bal.length := by omega
  simp [Instr.index, asIntOf, run_underlying Try.underlying48, go_sem, h2]
  omega
theorem index_wide (S : List Int) (hl : S.length = 64) (k : Nat) (hk : k < 64) (w : World) :
    (Instr.index 55 (.agg (sumsC S).toArray) (.int .i64 (k : Int))).run Try.prog w = .ok (.agg #[.int .u64 (hiW (S.getD k 0)), .int .u64 (loW (S.getD k 0))]) w := by
  have h2 : k < S.length := by omega
  obtain ⟨e1, e2⟩ := sumsC_at S k h2
  have e3 := sumsC_length S
  rw [hl] at e3
  generalize S.getD k 0 = x at e1 e2 ⊢
  have e4 : List.take 2 (List.drop (k * 2) (sumsC S)) = [.int .u64 (hiW x), .int .u64 (loW x)] := by
    apply List.ext_getElem?
    intro i
    rw [List.getElem?_take, List.getElem?_drop]
    match i with
    | 0 => rw [if_pos (by omega)]; exact e1
    | 1 => rw [if_pos (by omega)]; exact e2
    | i + 2 => rw [if_neg (by omega)]; rfl
  generalize sumsC S = C at e3 e4 ⊢
  simp [Instr.index, asIntOf, run_underlying Try.underlying55, go_sem, hk, e4]

theorem plus_to {S n T : Int} (h0 : -9223372036854775808 ≤ n) (h1 : n ≤ 9223372036854775807) (e : S + n = T) (w : World) :
    Calls Try.prog 21 #[.agg #[.int .u64 (hiW S), .int .u64 (loW S)], .int .i64 n] w fun e w' => e = .returned (.agg #[.int .u64 (hiW T), .int .u64 (loW T)]) ∧ Below w.heap.size w w' := by
  subst e
  exact plus_any S n h0 h1 w
/-- One sum's two cells. -/
theorem sums_cells {w : World} {gs : Nat} {S : List Int} (h : Blk w gs 55 (sumsC S)) (i : Nat) (x : Int) (hi : i < S.length) (hx : S.getD i 0 = x) :
    w.cell? ⟨gs, i * 2, none⟩ = some (.int .u64 (hiW x)) ∧ w.cell? ⟨gs, i * 2 + 1, none⟩ = some (.int .u64 (loW x)) ∧ w.frozen? ⟨gs, i * 2, none⟩ = false ∧ w.frozen? ⟨gs, i * 2 + 1, none⟩ = false := by
  subst hx
  obtain ⟨e1, e2⟩ := sumsC_at S i hi
  exact ⟨h.cell _ _ e1, h.cell _ _ e2, h.frozen _, h.frozen _⟩
theorem sums_set {w : World} {gs : Nat} {S : List Int} (h : Blk w gs 55 (sumsC S)) (i : Nat) (x : Int) :
    Blk ((w.setCell ⟨gs, i * 2, none⟩ (.int .u64 (hiW x))).setCell ⟨gs, i * 2 + 1, none⟩ (.int .u64 (loW x))) gs 55 (sumsC (S.set i x)) := by
  rw [← sumsC_set]
  exact (h.set _ _).set _ _

set_option maxRecDepth 100000 in
set_option maxHeartbeats 4000000 in
theorem post_any (b n : Nat) (bal : List Int) (c : Int) (v : Value) (es : List Ent) (w : World) (h : Sht w b n bal c) (hl : Lies 2 Ent.f w v es) (hI : ∀ e ∈ es, I64 e.amt) (hbal : ∀ x ∈ bal, amtOk x = true) (hc0 : -9223372036854775808 ≤ c) (hc1 : c < 9223372036854775807) :
    Calls Try.prog 10 #[.pointer (some ⟨b, 0, none⟩), v] w fun e w' => e = .returned (.bool (postB n bal es)) ∧ Sht w' b n (postL n bal es) (postC n bal es c) ∧ Rest b w w' := by
  have HL := hl
  obtain ⟨a, cap, rfl, _, hcm, _, _⟩ := hl
  obtain ⟨m, hm⟩ : ∃ m, es.length = m := ⟨_, rfl⟩
  have hlen := HL.len
  unfold maxLen at hlen
  rw [hm] at HL hlen ⊢
  have H2 : Hid (Lies 2 Ent.f w (.slice a m cap) es) := HL
  have H3 : Hid (∀ e ∈ es, I64 e.amt) := hI
  have H4 : Hid (es.take m = es) := by show _ = _; rw [← hm]; exact List.take_length
  have HM : Hid (es.length = m) := hm
  have H5 : Hid (∀ x ∈ bal, amtOk x = true) := hbal
  have H : Hid (Sht w b n bal c) := h
  have hm0 : m ≤ 9223372036854775807 := by omega
  by_cases hok : es ≠ [] ∧ netB es = true ∧ sumA es = 0
  · obtain ⟨k1, k2, k3⟩ := hok
    have k4 : netV es = 0 := by unfold netV; rw [if_pos k2, k3]
    have k5 : 0 < m := by
      rw [← hm]
      exact List.length_pos_iff.2 k1
    have HB : Hid (postB n bal es = (accOk n es && (addAll bal es).all amtOk)) := by
      show _ = _
      unfold postB
      rw [k2, decide_eq_true k1, decide_eq_true k3]
      simp
    have HK : Hid (netB es = true ∧ netV es = 0) := ⟨k2, k4⟩
    have k6 : allAmt es = true ∧ m ≤ 64 := by
      unfold netB at k2
      simp only [Bool.and_eq_true, decide_eq_true_eq] at k2
      exact ⟨k2.1.2, by omega⟩
    have HA : Hid (allAmt es = true) := k6.1
    have hm64 := k6.2
    have HBD : Hid (∀ k, k ≤ m → ∀ x ∈ addAll bal (es.take k), -74940000000000000000 ≤ x ∧ x ≤ 74940000000000000000) := by
      intro k hk x hx
      have ha : allAmt (es.take k) = true := by
        unfold allAmt at *
        rw [List.all_eq_true] at *
        exact fun e he => k6.1 e (List.mem_of_mem_take he)
      have := addAll_bd 1152921504606846976 (es.take k) bal ha (fun y hy => (amtOk_iff y).1 (hbal y hy)) x hx
      have hl : (es.take k).length ≤ 64 := by rw [List.length_take]; omega
      omega
    obtain ⟨hzs, hss⟩ := zero_of_info Try.info_sums
    generalize hZ : (sumsC (List.replicate 64 0)).toArray = Z at hzs
    have HZ : Hid ((sumsC (List.replicate 64 0)).toArray = Z) := hZ
    have sb : (Try.prog.info? 48).map (·.size) = some 64 := (zero_of_info Try.info_bals).2
    obtain ⟨BC, hBC⟩ : ∃ BC, bal.map (Value.int .i64) = BC := ⟨_, rfl⟩
    have SB : Hid ((Try.prog.info? 48).map (·.size) = some BC.length) := by show _ = _; rw [← hBC, List.length_map, h.len]; exact sb
    have HBC : Hid (bal.map (Value.int .i64) = BC) := hBC
    clear k1 k2 k3 k4 k6 hm HL hlen hI hbal h hcm hZ hBC sb
    go_enter Try.func10, Try.ntmps10
    go_upto_region 5 with (go_at_call 18; refine (net_any _ _ _ H2.out H3.out).mono ?_; rintro e w1 ⟨rfl, b1⟩; rw [HK.out.1, HK.out.2])
    have hsz := b1.size
    refine wp_letter (fun wx => Below w.heap.size w wx ∧ Sht wx b n bal c ∧ ∃ gs, w1.heap.size = gs ∧ w.heap.size ≤ gs ∧ Blk wx gs 55 (sumsC (startAt bal 0))) ⟨below_alloc b1 _, (H.out.then b1).then (below_alloc (Below.refl _ _) _), _, rfl, hsz, by rw [← HZ.out]; exact Blk.fresh _ _ _⟩ ?_
    rintro W ⟨hW, hS, gs, egs, hgs, hK⟩
    rw [egs]
    clear egs hsz b1 HZ hzs hss
    have hR : W.rangeAt b 1 BC := fun j u hu => by
      rw [← HBC.out, List.getElem?_map] at hu
      obtain ⟨x, hx, rfl⟩ := Option.map_eq_some_iff.1 hu
      have hj := (List.getElem?_eq_some_iff.1 hx).1
      rw [hS.cb j (by have := hS.len; omega), List.getD_eq_getElem?_getD, hx]
      rfl
    go_wp2_with (refine wpList_load_mid rfl 48 (.tmp 35) rfl b 1 rfl BC (.array 64 3) hR Try.underlying48 rfl SB.out ?_)
    clear hR
    go_loopw [37] (fun i wr => ∃ k : Nat, k ≤ 64 ∧ i = .int .i64 k ∧ Below w.heap.size w wr ∧ Blk wr gs 55 (sumsC (startAt bal k))) (fun i _ => 64 - (intOf i).toNat)
    case atStart => exact ⟨0, by omega, rfl, hW, hK⟩
    case round =>
    clear hW hK hS
    obtain ⟨k, hk, rfl, hB, hb⟩ := hrel
    by_cases hlt : k < 64
    · obtain ⟨x, hx⟩ : ∃ x, bal.getD k 0 = x := ⟨_, rfl⟩
      obtain ⟨s1, s2⟩ := startAt_next bal k H.out.len hlt
      have hidx := index_int bal H.out.len k hlt
      rw [HBC.out, hx] at hidx
      rw [hx] at s1
      have hxa := (amtOk_iff x).1 (H5.out x (by rw [← hx]; simp [List.getD_eq_getElem?_getD, H.out.len, hlt]))
      have i0 : -9223372036854775808 ≤ x := by omega
      have i1 : x ≤ 9223372036854775807 := by omega
      have hl := startAt_length bal k H.out.len hk
      obtain ⟨c0, c1, _, _⟩ := sums_cells hb k 0 (by omega) s2
      have HX : Hid (0 + x = x) := by show _ = _; omega
      have k1 : (k : Int) < 64 := by omega
      have HN : Hid ((startAt bal k).set k (0 + x) = startAt bal (k + 1)) := s1
      have HL2 : Hid ((startAt bal k).length = 64 ∧ (startAt bal k).getD k 0 = 0) := ⟨hl, s2⟩
      clear hxa hx s1 s2 hl
      go_wp2_with (go_at_call 21; refine (plus_to i0 i1 HX.out _).mono ?_; rintro e wn ⟨rfl, bn⟩; have hbn := hb.then bn; obtain ⟨z0, z1, f0, f1⟩ := sums_cells hbn k 0 (by rw [HL2.out.1]; omega) HL2.out.2)
      go_roundw
      case rel => exact ⟨k + 1, by omega, by go_num, ((below_then hB bn).setCell hgs _).setCell hgs _, by have := sums_set hbn k (0 + x); rw [HN.out, HX.out] at this; exact this⟩
      case measure => simp [intOf]; omega
    · have hk64 : k = 64 := by omega
      rw [hk64, startAt_all bal H.out.len] at hb
      clear hk64
      go_wp2
      go_loopw [51] (fun i wr => ∃ k : Nat, k ≤ m ∧ i = .int .i64 k ∧ accOk n (es.take k) = true ∧ Below w.heap.size w wr ∧ Blk wr gs 55 (sumsC (addAll bal (es.take k)))) (fun i _ => m - (intOf i).toNat)
      case atStart => exact ⟨0, by omega, rfl, rfl, hB, hb⟩
      case round =>
      clear hB hb hlt hk
      obtain ⟨k, hk, rfl, hA, hB, hb⟩ := hrel
      by_cases hlt : k < m
      · obtain ⟨sb, off, rfl, hc⟩ := H2.out.place (by omega)
        have hx : es[k]? = some (es[k]'(by have := HM.out; omega)) := List.getElem?_eq_getElem (by have := HM.out; omega)
        obtain ⟨x, hx'⟩ : ∃ x, es[k]'(by have := HM.out; omega) = x := ⟨_, rfl⟩
        have hmem : x ∈ es := by rw [← hx']; exact List.getElem_mem _
        rw [hx'] at hx
        clear hx'
        have c := hc k x hx
        have c0 := c 0 _ rfl; have c1 := c 1 _ rfl
        rw [Nat.add_zero] at c0
        replace c0 := cell_keep hB c0
        replace c1 := cell_keep hB c1
        have n1 := addAll_next es k x hx bal
        have n2 := accOk_next n es k x hx
        rw [hA] at n2
        obtain ⟨i0, i1⟩ := H3.out x hmem
        obtain ⟨S, hS⟩ : ∃ S, addAll bal (es.take k) = S := ⟨_, rfl⟩
        rw [hS] at n1 hb
        have hSl : S.length = 64 := by rw [← hS, addAll_length]; exact H.out.len
        have HM2 : Hid (x ∈ es) := hmem
        clear hc c hA hmem hx hS
        obtain ⟨ac, am⟩ := x
        simp only at c0 c1 i0 i1 n1 n2
        go_upto_region 13 with fail
        refine wp_letter (fun wx => Below w.heap.size w wx ∧ Blk wx gs 55 (sumsC S) ∧ ∃ Q, wr.heap.size = Q ∧ w.heap.size ≤ Q ∧ wx.cell? ⟨Q, 0, none⟩ = some (.int .i64 ac) ∧ wx.cell? ⟨Q, 1, none⟩ = some (.int .i64 am)) ⟨below_alloc hB _, hb.alloc _, _, rfl, hB.size, by simp [go_sem], by simp [go_sem]⟩ ?_
        have hbl := hb.lt
        clear hB hb c0 c1
        rintro X ⟨hX, hb, Q, eQ, hQ, q0, q1⟩
        have HQ : Hid (Q ≠ gs) := by show _ ≠ _; rw [← eQ]; exact Nat.ne_of_gt hbl
        rw [eQ]
        clear eQ
        have HX : Hid (Sht X b n bal c) := H.out.then hX
        cases hok : (decide (0 ≤ ac) && decide (ac < (n : Int))) with
        | false =>
          have HF : Hid ((decide (0 ≤ ac) && decide (ac < (n : Int))) = false) := hok
          clear hok n1 n2
          go_wp2_with (go_at_call 22; refine (has_any _ _ _ _ _ _ HX.out).mono ?_; rintro e wq ⟨rfl, hq⟩; have hq := hq.symm; subst hq; rw [HF.out])
          go_ret
          have e1 : postB n bal es = false := by rw [HB.out, accOk_false n es _ HM2.out HF.out]; rfl
          rw [postL, postC, e1, if_neg (by simp), if_neg (by simp)]
          exact ⟨rfl, HX.out, .of_below hX⟩
        | true =>
          have HF : Hid ((decide (0 ≤ ac) && decide (ac < (n : Int))) = true) := hok
          rw [hok] at n2
          simp only [Bool.and_eq_true, decide_eq_true_eq] at hok
          obtain ⟨j, rfl⟩ := Int.eq_ofNat_of_zero_le hok.1
          have hj : j < 64 := by have := H.out.n64; omega
          simp only [Int.toNat_natCast] at n1
          obtain ⟨y, hy⟩ : ∃ y, S.getD j 0 = y := ⟨_, rfl⟩
          obtain ⟨T, hT⟩ : ∃ T, y + am = T := ⟨_, rfl⟩
          rw [hy, hT] at n1
          have j0 : (0 : Int) ≤ (j : Int) := by omega
          have j1 : (j : Int) < 64 := by omega
          obtain ⟨d0, d1, _, _⟩ := sums_cells hb j y (by omega) hy
          have N1 : Hid (addAll bal (es.take (k + 1)) = S.set j T) := n1
          have N2 : Hid (accOk n (es.take (k + 1)) = true) := n2
          have HT : Hid (y + am = T) := hT
          have HSl : Hid (j < S.length) := by show _ < _; omega
          have HY : Hid (S.getD j 0 = y) := hy
          clear n1 n2 hok hT hSl hy
          go_upto_region 15 with (go_at_call 22; refine (has_any _ _ _ _ _ _ HX.out).mono ?_; rintro e wq ⟨rfl, hq⟩; have hq := hq.symm; subst hq; rw [HF.out])
          have hQg : Q ≠ gs := HQ.out
          refine wp_region_held_drew (S := fun wx => wx.cell? ⟨Q, 0, none⟩ = some (.int .i64 (j : Int)) ∧ wx.cell? ⟨Q, 1, none⟩ = some (.int .i64 am)) (by kernel_rfl) (by exact ⟨q0, q1⟩) (fun hHeld => ?_)
          (refine wpAnyH_take (i := 0) (v := ?_) rfl (by kernel_rfl) (by kernel_rfl) (by kernel_rfl) (fun _ _ _ h => h) (Or.inl ⟨by rfl, ?hy⟩) (by assumption) ?_; (case hy => (intro w hSw; (try dsimp only at hSw); go_simp; try with_reducible rfl)); try simp only [List.getElem_toArray, List.getElem_cons_zero, Act.put, List.setIfInBounds_toArray, List.set_cons_zero, List.set_cons_succ])
          (refine wpAnyH_take (i := 1) (v := ?_) rfl (by kernel_rfl) (by kernel_rfl) (by kernel_rfl) (fun _ _ _ h => h) (Or.inl ⟨by rfl, ?hy⟩) (by assumption) ?_; (case hy => (intro w hSw; (try dsimp only at hSw); go_simp; try with_reducible rfl)); try simp only [List.getElem_toArray, List.getElem_cons_succ, List.getElem_cons_zero, Act.put, List.setIfInBounds_toArray, List.set_cons_zero, List.set_cons_succ])
          (refine wpAnyH_take (i := 2) (v := ?_) rfl (by kernel_rfl) (by kernel_rfl) (by kernel_rfl) (fun _ _ _ h => h) (Or.inl ⟨by rfl, ?hy⟩) (by assumption) ?_; (case hy => (intro w hSw; (try dsimp only at hSw); go_simp; try with_reducible rfl)); try simp only [List.getElem_toArray, List.getElem_cons_succ, List.getElem_cons_zero, Act.put, List.setIfInBounds_toArray, List.set_cons_zero, List.set_cons_succ])
          (refine wpAnyH_take (i := 3) (v := ?_) rfl (by kernel_rfl) (by kernel_rfl) (by kernel_rfl) (fun _ _ _ h => h) (Or.inl ⟨by rfl, ?hy⟩) (by assumption) ?_; (case hy => (intro w hSw; (try dsimp only at hSw); go_simp; try with_reducible rfl)); try simp only [List.getElem_toArray, List.getElem_cons_succ, List.getElem_cons_zero, Act.put, List.setIfInBounds_toArray, List.set_cons_zero, List.set_cons_succ])
          (refine wpAnyH_take (i := 4) (v := ?_) rfl (by kernel_rfl) (by kernel_rfl) (by kernel_rfl) (fun _ _ _ h => h) (Or.inl ⟨by rfl, ?hy⟩) (by assumption) ?_; (case hy => (intro w hSw; (try dsimp only at hSw); go_simp; try with_reducible rfl)); try simp only [List.getElem_toArray, List.getElem_cons_succ, List.getElem_cons_zero, Act.put, List.setIfInBounds_toArray, List.set_cons_zero, List.set_cons_succ])
          (refine wpAnyH_take (i := 6) (v := ?_) rfl (by kernel_rfl) (by kernel_rfl) (by kernel_rfl) (fun _ _ _ h => h) (Or.inl ⟨by rfl, ?hy⟩) (by assumption) ?_; (case hy => (intro w hSw; (try dsimp only at hSw); go_simp; try with_reducible rfl)); try simp only [List.getElem_toArray, List.getElem_cons_succ, List.getElem_cons_zero, Act.put, List.setIfInBounds_toArray, List.set_cons_zero, List.set_cons_succ])
          (refine wpAnyH_take (i := 7) (v := ?_) rfl (by kernel_rfl) (by kernel_rfl) (by kernel_rfl) (fun _ _ _ h => h) (Or.inl ⟨by rfl, ?hy⟩) (by assumption) ?_; (case hy => (intro w hSw; (try dsimp only at hSw); go_simp; try with_reducible rfl)); try simp only [List.getElem_toArray, List.getElem_cons_succ, List.getElem_cons_zero, Act.put, List.setIfInBounds_toArray, List.set_cons_zero, List.set_cons_succ])
          refine wpAnyH_ready (rs := [5]) (by kernel_rfl) (by simp) ?_
          refine AllReadyH.cons rfl (fun K hK => ?_) AllReadyH.nil
          go_simp
          refine hK.out _ _ (by exact ⟨q0, q1⟩) (fun hHeld => ?_)
          clear hK K
          try simp only [List.getElem_toArray, List.getElem_cons_succ, List.getElem_cons_zero, Act.put, List.setIfInBounds_toArray, List.set_cons_zero, List.set_cons_succ]
          refine wpAnyH_ready (rs := [8]) (by kernel_rfl) (by simp) ?_
          refine AllReadyH.cons rfl (fun K hK => ?_) AllReadyH.nil
          go_simp
          go_wp2_with (go_at_call 21; refine (plus_to i0 i1 HT.out _).mono ?_; rintro e wn ⟨rfl, bn⟩; have hbn := hb.drew.then bn; have r0 : wn.cell? ⟨Q, 0, none⟩ = some (.int .i64 (j : Int)) := cell_keep bn q0; have r1 : wn.cell? ⟨Q, 1, none⟩ = some (.int .i64 am) := cell_keep bn q1; obtain ⟨z0, z1, f0, f1⟩ := sums_cells hbn j y HSl.out HY.out)
          refine hK.out _ _ (by exact ⟨r0, r1⟩) (fun hHeld => ?_)
          clear hK K
          try simp only [List.getElem_toArray, List.getElem_cons_succ, List.getElem_cons_zero, Act.put, List.setIfInBounds_toArray, List.set_cons_zero, List.set_cons_succ]
          (refine wpAnyH_take (i := 9) (v := ?_) rfl (by kernel_rfl) (by kernel_rfl) (by kernel_rfl) (fun _ _ _ h => h) (Or.inl ⟨by rfl, ?hy⟩) (by assumption) ?_; (case hy => (intro w hSw; (try dsimp only at hSw); go_simp; try with_reducible rfl)); try simp only [List.getElem_toArray, List.getElem_cons_succ, List.getElem_cons_zero, Act.put, List.setIfInBounds_toArray, List.set_cons_zero, List.set_cons_succ])
          refine wpAnyH_ready (rs := [10]) (by kernel_rfl) (by simp) ?_
          refine AllReadyH.cons rfl (fun K hK => ?_) AllReadyH.nil
          go_simp
          refine hK.out _ _ (by exact ⟨by simp [go_sem, r0], by simp [go_sem, r1]⟩) (fun hHeld => ?_)
          clear hK K
          try simp only [List.getElem_toArray, List.getElem_cons_succ, List.getElem_cons_zero, Act.put, List.setIfInBounds_toArray, List.set_cons_zero, List.set_cons_succ]
          refine wpAnyH_done (by kernel_rfl) ?_ _
          clear hHeld
          go_wp2
          go_roundw
          case rel => exact ⟨k + 1, by omega, by go_num, N2.out, ((below_then hX (below_thn bn (Below.refl _ _).drew)).setCell hgs _).setCell hgs _, by rw [N1.out]; exact sums_set hbn j T⟩
          case measure => simp [intOf]; omega
      · have hkm : k = m := by omega
        rw [hkm, H4.out] at hb hA
        clear hkm
        obtain ⟨F, hF⟩ : ∃ F, addAll bal es = F := ⟨_, rfl⟩
        have HFB : Hid (∀ x ∈ F, -74940000000000000000 ≤ x ∧ x ≤ 74940000000000000000) := by
          have := HBD.out m (Nat.le_refl _)
          rw [H4.out, hF] at this
          exact this
        have HFl : Hid (F.length = 64) := by show _ = _; rw [← hF, addAll_length]; exact H.out.len
        have HP : Hid (postB n bal es = F.all amtOk) := by show _ = _; rw [HB.out, hA, hF]; rfl
        have HP2 : Hid (addAll bal es = F) := hF
        rw [hF] at hb
        obtain ⟨SC, hSC⟩ : ∃ SC, sumsC F = SC := ⟨_, rfl⟩
        have HSC : Hid (sumsC F = SC) := hSC
        have SS : Hid ((Try.prog.info? 55).map (·.size) = some SC.length) := by show _ = _; rw [← hSC, sumsC_length, HFl.out]; exact (zero_of_info Try.info_sums).2
        rw [hSC] at hb
        clear hF hSC hA HBD H2 H3 HM HA
        go_upto_region 18 with fail
        refine wp_letter (fun wx => Below w.heap.size w wx ∧ wx.rangeAt gs 0 SC ∧ ∃ gb, wr.heap.size = gb ∧ w.heap.size ≤ gb ∧ Blk wx gb 48 ((startAt F 0).map (Value.int .i64))) ⟨below_alloc hB _, fun j u hu => by rw [Nat.zero_add]; exact (hb.alloc _).cell j u hu, _, rfl, hB.size, Blk.fresh _ _ _⟩ ?_
        clear hB hb
        rintro Y ⟨hY, hR, gb, egb, hgb, hK⟩
        rw [egb]
        clear egb
        go_wp2_with (refine wpList_load_mid rfl 55 (.tmp 7) rfl gs 0 rfl SC (.array 64 54) hR Try.underlying55 rfl SS.out ?_)
        go_loopw [72] (fun i wr => ∃ k : Nat, k ≤ 64 ∧ i = .int .i64 k ∧ (F.take k).all amtOk = true ∧ Below w.heap.size w wr ∧ Blk wr gb 48 ((startAt F k).map (Value.int .i64))) (fun i _ => 64 - (intOf i).toNat)
        case atStart => exact ⟨0, by omega, rfl, rfl, hY, hK⟩
        case round =>
        clear hY hK hR hlt hk
        obtain ⟨k, hk, rfl, hA, hB, hb⟩ := hrel
        by_cases hlt : k < 64
        · obtain ⟨x, hx⟩ : ∃ x, F.getD k 0 = x := ⟨_, rfl⟩
          have hidx := index_wide F HFl.out k hlt
          rw [HSC.out, hx] at hidx
          have hxa := HFB.out x (by rw [← hx]; simp [List.getD_eq_getElem?_getD, HFl.out, hlt])
          have k1 : (k : Int) < 64 := by omega
          have HN : Hid (((startAt F k).map (Value.int .i64)).set k (.int .i64 x) = (startAt F (k + 1)).map (Value.int .i64)) := by show _ = _; rw [← hx]; exact startAt_set F k HFl.out hlt
          have HA2 : Hid ((F.take (k + 1)).all amtOk = amtOk x) := by show _ = _; rw [all_take_next F k (by rw [HFl.out]; exact hlt), hA, hx]; rfl
          have HXF : Hid (amtOk x = false → F.all amtOk = false) := fun h => all_getD_false F k (by rw [HFl.out]; exact hlt) (by rw [hx]; exact h)
          have hsl := startAt_length F k HFl.out hk
          have HLn : Hid (((startAt F k).map (Value.int .i64)).length = 64) := by show _ = _; rw [List.length_map]; exact hsl
          clear hx hA hsl
          go_upto_region 21 with fail
          refine wp_letter (fun wx => Below w.heap.size w wx ∧ Blk wx gb 48 ((startAt F k).map (Value.int .i64)) ∧ ∃ Q, wr.heap.size = Q ∧ wx.cell? ⟨Q, 0, none⟩ = some (.int .u64 (hiW x)) ∧ wx.cell? ⟨Q, 1, none⟩ = some (.int .u64 (loW x))) ⟨below_alloc hB _, hb.alloc _, _, rfl, by simp [go_sem], by simp [go_sem]⟩ ?_
          clear hB hb hidx
          rintro X ⟨hX, hb, Q, eQ, q0, q1⟩
          rw [eQ]
          clear eQ
          cases hok : amtOk x with
          | true =>
            have hx2 := (amtOk_iff x).1 hok
            rw [hok] at HA2
            have HF : Hid (amtOk x = true) := hok
            clear hok HXF
            go_wp2_with (first
              | (go_at_call 23; refine (number_yes x (by omega) (by omega) _).mono ?_; rintro e wn ⟨rfl, bn⟩; have hbn := hb.then bn; have z0 := hbn.cell k _ (List.getElem?_eq_getElem (by rw [HLn.out]; exact hlt)); have f0 := hbn.frozen k; (generalize (((startAt F k).map (Value.int .i64))[k]'(by rw [HLn.out]; exact hlt)) = old at z0))
              | (go_at_call 24; refine (bounded_any _ _).mono ?_; rintro e wq ⟨rfl, hq⟩; have hq := hq.symm; subst hq; rw [HF.out]))
            go_roundw
            case rel => exact ⟨k + 1, by omega, by go_num, HA2.out, (below_then hX bn).setCell hgb _, by rw [← HN.out]; exact hbn.set k _⟩
            case measure => simp [intOf]; omega
          | false =>
            have e1 : postB n bal es = false := by rw [HP.out]; exact HXF.out hok
            have HE : Hid (postL n bal es = bal ∧ postC n bal es c = c) := ⟨by rw [postL, e1, if_neg (by simp)], by rw [postC, e1, if_neg (by simp)]⟩
            have HE1 : Hid (postB n bal es = false) := e1
            have HF : Hid (amtOk x = false) := hok
            clear e1 hok HXF HA2
            by_cases hint : -9223372036854775808 ≤ x ∧ x ≤ 9223372036854775807
            · obtain ⟨h0, h1⟩ := hint
              go_wp2_with (first
                | (go_at_call 23; refine (number_yes x h0 h1 _).mono ?_; rintro e wn ⟨rfl, bn⟩)
                | (go_at_call 24; refine (bounded_any _ _).mono ?_; rintro e wq ⟨rfl, hq⟩; have hq := hq.symm; subst hq; rw [HF.out]))
              go_ret
              rw [HE.out.1, HE.out.2, HE1.out]
              exact ⟨rfl, H.out.then (below_then hX bn), .of_below (below_then hX bn)⟩
            · have h0 : x < -9223372036854775808 ∨ 9223372036854775807 < x := by omega
              clear hint
              go_wp2_with (go_at_call 23; refine (number_no x (by omega) (by omega) h0 _).mono ?_; rintro e wn ⟨rfl, bn⟩)
              go_ret
              rw [HE.out.1, HE.out.2, HE1.out]
              exact ⟨rfl, H.out.then (below_then hX bn), .of_below (below_then hX bn)⟩
        · have hk64 : k = 64 := by omega
          rw [hk64, startAt_all F HFl.out] at hb
          rw [hk64, List.take_of_length_le (by rw [HFl.out]; omega)] at hA
          clear hk64
          have e1 : postB n bal es = true := by rw [HP.out]; exact hA
          have HE : Hid (postL n bal es = F ∧ postC n bal es c = c + 1) := ⟨by rw [postL, e1, if_pos rfl, HP2.out], by rw [postC, e1, if_pos rfl]⟩
          have HE1 : Hid (postB n bal es = true) := e1
          obtain ⟨FC, hFC⟩ : ∃ FC, F.map (Value.int .i64) = FC := ⟨_, rfl⟩
          have HFC : Hid (F.map (Value.int .i64) = FC) := hFC
          rw [hFC] at hb
          have SF : Hid ((Try.prog.info? 48).map (·.size) = some FC.length) := by show _ = _; rw [← hFC, List.length_map, HFl.out]; exact (zero_of_info Try.info_bals).2
          have SF2 : Hid ((Try.prog.info? 48).map (·.size) = some FC.toArray.size) := SF
          have hR : wr.rangeAt gb 0 FC := fun j u hu => by rw [Nat.zero_add]; exact hb.cell j u hu
          have hS := H.out.then hB
          have HT : Hid (wr.there b 1 FC.toArray.size) := hS.blk.there 1 _ (by rw [← hFC]; simp [shC, HFl.out, hS.len])
          have H1C : Hid (FC.toArray.all (·.oneCell') = true) := all_oneCell_toArray (by rw [← hFC]; exact ints_oneCell' F)
          have hW2 : Sht (wr.setCells b 1 FC.toArray.toList) b n F c := ⟨by
            have := Blk.setCells FC 1 hS.blk (by rw [← hFC]; simp [shC, HFl.out, hS.len])
            rw [← hFC, shC_bal n bal F c hS.len HFl.out, hFC] at this
            exact this, HFl.out, hS.n64⟩
          have hR2 : Rest b w (wr.setCells b 1 FC.toArray.toList) := (Rest.of_below hB).trans (Rest.setCells b _ 1 wr)
          have HW2 : Hid (Sht (wr.setCells b 1 FC.toArray.toList) b n F c ∧ Rest b w (wr.setCells b 1 FC.toArray.toList)) := ⟨hW2, hR2⟩
          clear hW2 hR2 hS e1 hA hFC
          go_upto_region 27 with (first
            | (refine wpList_load_mid rfl 48 (.tmp 12) rfl gb 0 rfl FC (.array 64 3) hR Try.underlying48 rfl SF.out ?_)
            | (refine wpList_store_mid rfl 48 (.tmp 95) (.tmp 93) rfl b 1 FC.toArray rfl rfl HT.out SF2.out H1C.out ?_))
          refine wp_letter (fun wx => Sht wx b n F c ∧ Rest b w wx) HW2.out ?_
          rintro V ⟨hV, hRV⟩
          have c0 := hV.cc
          have f0 := hV.blk.frozen 65
          have HV : Hid (Sht V b n F c) := hV
          clear hV HW2 hR
          go_wp2
          go_ret
          rw [HE.out.1, HE.out.2, HE1.out]
          exact ⟨rfl, ⟨by have := HV.out.blk.set 65 (.int .i64 (c + 1)); rw [shC_count _ _ _ _ HV.out.len] at this; exact this, HV.out.len, HV.out.n64⟩, hRV.trans (Rest.set _ _ _ _)⟩
  · have e1 : postB n bal es = false := by
      unfold postB
      by_cases g1 : es ≠ []
      · by_cases g2 : netB es = true
        · rw [decide_eq_false (p := sumA es = 0) (fun g3 => hok ⟨g1, g2, g3⟩)]
          simp
        · simp only [Bool.not_eq_true] at g2
          rw [g2]
          simp
      · rw [decide_eq_false g1]
        simp
    rw [postL, postC, e1, if_neg (by simp), if_neg (by simp)]
    clear e1 HL hI h hbal hcm hlen
    by_cases hm1 : m = 0
    · subst hm1
      have e2 : es = [] := List.eq_nil_of_length_eq_zero HM.out
      have e3 : netB es = true := by rw [e2]; decide
      have e4 : netV es = 0 := by rw [e2]; decide
      have HK : Hid (netB es = true ∧ netV es = 0) := ⟨e3, e4⟩
      clear hok e2 e3 e4
      go_enter Try.func10, Try.ntmps10
      go_wp2_with (go_at_call 18; refine (net_any _ _ _ H2.out H3.out).mono ?_; rintro e w1 ⟨rfl, b1⟩; rw [HK.out.1, HK.out.2])
      go_ret
      exact ⟨rfl, H.out.then b1, .of_below b1⟩
    · have hm2 : (0 : Int) < (m : Int) := by omega
      cases hn : netB es with
      | false =>
        have e4 : netV es = 0 := by rw [netV, hn, if_neg (by simp)]
        have HK : Hid (netB es = false ∧ netV es = 0) := ⟨hn, e4⟩
        clear hok hn e4
        go_enter Try.func10, Try.ntmps10
        go_wp2_with (go_at_call 18; refine (net_any _ _ _ H2.out H3.out).mono ?_; rintro e w1 ⟨rfl, b1⟩; rw [HK.out.1, HK.out.2])
        go_ret
        exact ⟨rfl, H.out.then b1, .of_below b1⟩
      | true =>
        have e4 : netV es = sumA es := by rw [netV, hn, if_pos rfl]
        have e5 : sumA es ≠ 0 := fun g => hok ⟨by intro e; rw [e] at HM; exact hm1 HM.out.symm, hn, g⟩
        obtain ⟨S, hS⟩ : ∃ S, sumA es = S := ⟨_, rfl⟩
        rw [hS] at e4 e5
        have HK : Hid (netB es = true ∧ netV es = S) := ⟨hn, e4⟩
        have e6 : (S == 0) = false := by simpa using e5
        clear hok hn e4 hS e5
        go_enter Try.func10, Try.ntmps10
        go_wp2_with (go_at_call 18; refine (net_any _ _ _ H2.out H3.out).mono ?_; rintro e w1 ⟨rfl, b1⟩; rw [HK.out.1, HK.out.2])
        go_ret
        exact ⟨rfl, H.out.then b1, .of_below b1⟩
end Go.Proofs.Ytolbgemaildbkaa
