/-
  Package deal: the walks of within, rightRank, rightStep, slices.Index and Contains at steps, Steps, rightModes.
-/
import Derived.Test.YtamdmicdieeolaaDealP
import Derived.Test.YtamdmicdieeolaaLiesNew
import Derived.ChangeKeysEq
namespace Go.Proofs.Ytamdmicdieeolaa
open Go.RowKit

theorem beq_eq_decide (a b : Int) : (a == b) = decide (a = b) := by
  by_cases h : a = b
  · subst h; simp
  · rw [decide_eq_false h]; exact beq_eq_false_iff_ne.2 h
set_option maxHeartbeats 1000000 in
theorem dwithin_any (lo hi : Int) (v : Value) (zs : List Int) (w : World) (h : Reads w v zs) :
    Calls Try.prog 25 #[.int .i64 lo, .int .i64 hi, v] w fun e w' => e = .returned (.bool (inL lo hi zs)) ∧ w' = w := by
  obtain ⟨a, cap, rfl, _, hm, hz⟩ := h
  obtain ⟨n, hn⟩ : ∃ n, zs.length = n := ⟨_, rfl⟩
  rw [hn] at hm ⊢
  unfold maxLen at hm
  have hc : Hid (∀ i, i < n → ∃ b off, a = some ⟨b, off, none⟩ ∧ w.cell? ⟨b, off + i, none⟩ = some (.int .i64 (zs.getD i 0))) := fun i hi => by
    rcases hz with rfl | ⟨b, off, rfl, hc⟩
    · simp at hn; omega
    · exact ⟨b, off, rfl, hc i (by omega)⟩
  have hm2 : n ≤ 9223372036854775807 := by omega
  obtain ⟨V, hV⟩ : ∃ V, inL lo hi zs = V := ⟨_, rfl⟩
  rw [hV]
  have HV : Hid (inL lo hi zs = V) := hV
  have HN : Hid (zs.length = n) := hn
  clear hz hm hV hn
  go_enter Try.func25, Try.ntmps25
  go_wp2
  go_loop [11] (fun i => ∃ k : Nat, k ≤ n ∧ i = .int .i64 k ∧ inL lo hi (zs.drop k) = V) (fun i => n - (intOf i).toNat)
  case atStart => exact ⟨0, Nat.zero_le _, rfl, HV.out⟩
  case round =>
  obtain ⟨k, hk, rfl, hr⟩ := hrel
  by_cases hlt : k < n
  · obtain ⟨b, off, rfl, hcell⟩ := hc.out k hlt
    rw [inL_at lo hi zs k (by rw [HN.out]; exact hlt)] at hr
    generalize zs.getD k 0 = x at hcell hr
    have HA : Hid ((decide (lo ≤ x) && decide (x ≤ hi) && inL lo hi (zs.drop (k + 1))) = V) := hr
    clear hr HV
    by_cases h0 : lo ≤ x
    · by_cases h1 : x ≤ hi
      · go_wp2
        go_round
        case rel => exact ⟨k + 1, by omega, by go_num, by rw [← HA.out]; simp [h0, h1]⟩
        case measure => simp [intOf]; omega
      · go_wp2
        go_ret
        exact ⟨by rw [← HA.out, decide_eq_false (p := x ≤ hi) (by omega)]; simp, rfl⟩
    · go_wp2
      go_ret
      exact ⟨by rw [← HA.out, decide_eq_false (p := lo ≤ x) (by omega)]; rfl, rfl⟩
  · have HR : Hid (inL lo hi (zs.drop k) = V) := hr
    clear hr HV
    go_wp2
    go_ret
    have : zs.drop k = [] := List.drop_eq_nil_of_le (by rw [HN.out]; omega)
    exact ⟨by rw [← HR.out, this]; rfl, rfl⟩
/-- Of numbers laid in a block of their own. -/
theorem dwithin_new (lo hi : Int) (zs : List Int) (w : World) (t : TypeId) (n : Nat) (cs : Array Value) (hcs : cs = (zs.map (Value.int .i64)).toArray) (hn : zs.length = n) (hb : n ≤ 1000) :
    Calls Try.prog 25 #[.int .i64 lo, .int .i64 hi, .slice (some ⟨w.heap.size, 0, none⟩) n n] (w.alloc (.cells cs t)) fun e w' => e = .returned (.bool (inL lo hi zs)) ∧ Below w.heap.size w w' := by
  subst hcs hn
  refine (dwithin_any lo hi _ zs _ ⟨_, zs.length, rfl, Nat.le_refl _, by unfold maxLen; omega, Or.inr ⟨w.heap.size, 0, rfl, fun i hi => ?_⟩⟩).mono ?_
  · have := (Blk.fresh w t (zs.map (Value.int .i64))).cell i (.int .i64 (zs.getD i 0)) (by rw [List.getElem?_map, List.getElem?_eq_getElem hi]; simp [hi])
    rw [Nat.zero_add]
    exact this
  · rintro e w' ⟨rfl, rfl⟩
    exact ⟨rfl, below_alloc (Below.refl _ _) _⟩
theorem dwithin_k {lo hi z : Int} {A : Bool} {w : World} {t : TypeId} (e : inL lo hi [z] = A) :
    Calls Try.prog 25 #[.int .i64 lo, .int .i64 hi, .slice (some ⟨w.heap.size, 0, none⟩) 1 1] (w.alloc (.cells #[.int .i64 z] t)) fun e w' => e = .returned (.bool A) ∧ Below w.heap.size w w' := by
  subst e
  exact dwithin_new lo hi [z] w t 1 _ rfl rfl (by decide)

theorem drank_any (r : Int) (w : World) : Calls Try.prog 37 #[.int .i64 r] w fun e w' => e = .returned (.bool (rankP r)) ∧ Below w.heap.size w w' := by
  have HA : Hid (rankP r = rankP r) := rfl
  go_enter Try.func37, Try.ntmps37
  go_wp2_with (go_at_call 25; refine (dwithin_k (A := rankP r) rfl).mono ?_; rintro e w1 ⟨rfl, d1⟩)
  go_ret
  exact ⟨rfl, d1⟩
set_option maxHeartbeats 1000000 in
theorem dstep_any (x : StT) (w : World) : Calls Try.prog 26 #[x.v] w fun e w' => e = .returned (.bool x.ok) ∧ Below w.heap.size w w' := by
  obtain ⟨kd, rk⟩ := x
  unfold StT.ok StT.v
  simp only
  by_cases h3 : kd = 3
  · rw [if_pos h3]
    subst h3
    go_enter Try.func26, Try.ntmps26
    go_wp2_with (go_at_call 37; refine (drank_any rk _).mono ?_; rintro e w1 ⟨rfl, d1⟩)
    go_ret
    exact ⟨rfl, below_then (below_alloc (Below.refl _ _) _) d1⟩
  · rw [if_neg h3]
    obtain ⟨A, hA⟩ : ∃ A, inL 1 7 [kd] = A := ⟨_, rfl⟩
    rw [hA]
    have HA : Hid (inL 1 7 [kd] = A) := hA
    clear hA
    have h3' : (kd == 3) = false := beq_eq_false_iff_ne.2 h3
    go_enter Try.func26, Try.ntmps26
    go_upto_region 1 with fail
    refine wp_letter (fun wx => ∃ g, w.heap.size = g ∧ Blk wx g 37 (StT.f ⟨kd, rk⟩) ∧ Below w.heap.size w wx) ⟨_, rfl, Blk.fresh _ _ (StT.f ⟨kd, rk⟩), below_alloc (Below.refl _ _) _⟩ ?_
    rintro W ⟨g, eg, bg, hW⟩
    rw [eg]
    clear eg
    have c0 := bg.cell 0 _ rfl
    have c1 := bg.cell 1 _ rfl
    cases A with
    | false =>
      go_wp2_with (go_at_call 25; refine (dwithin_k HA.out).mono ?_; rintro e w1 ⟨rfl, d1⟩)
      go_ret
      exact ⟨rfl, below_then hW d1⟩
    | true =>
      go_wp2_with (go_at_call 25; refine (dwithin_k HA.out).mono ?_; rintro e w1 ⟨rfl, d1⟩; replace c1 := cell_keep d1 c1)
      go_ret
      exact ⟨ret_bool (by rw [Bool.true_and]; exact beq_eq_decide rk 0), below_then hW d1⟩

/-- == of structs of numbers, field by field. -/
theorem eq_fields {P : Program} (d : Nat) (hu : ∀ f : Field, f.type = 3 → P.underlying f.type = some (.int .i64) ∧ P.plainKey f.type = true) (xs ys : Array Value) (a b : Int) (f : Field) (fs : List Field) (hn : f.name ≠ "_") (ht : f.type = 3) (hx : xs[f.offset]? = some (.int .i64 a)) (hy : ys[f.offset]? = some (.int .i64 b)) (wx : World) :
    (Op.eqFields (d + 1) xs ys (f :: fs)).run P wx = if a = b then (Op.eqFields (d + 1) xs ys fs).run P wx else .ok false wx := by
  have x0 := run_part_plain (P := P) wx (hu f ht).2 hx
  have y0 := run_part_plain (P := P) wx (hu f ht).2 hy
  have q := run_equalIn_int (P := P) wx d f.type .i64 .i64 a b (hu f ht).1
  by_cases h : a = b
  · subst h; simp [Op.eqFields, Sem.run_bind, hn, x0, y0, q]
  · simp [Op.eqFields, Sem.run_bind, hn, x0, y0, q, h]
theorem eq_st (wx : World) (a b c d : Int) : (Op.equalIn 10000 37 (.agg #[.int .i64 a, .int .i64 b]) (.agg #[.int .i64 c, .int .i64 d])).run Try.prog wx = .ok (decide (a = c ∧ b = d)) wx := by
  have hp : Try.prog.stoodInHeld 37 = false := by kernel_rfl
  have hu : Try.prog.underlying 37 = some (.struct (Try.prog.fieldsOf 37)) := by kernel_rfl
  have hi : ∀ f : Field, f.type = 3 → Try.prog.underlying f.type = some (.int .i64) ∧ Try.prog.plainKey f.type = true := fun f h => by rw [h]; exact ⟨Try.underlying3, by kernel_rfl⟩
  have hf : (Try.prog.fieldsOf 37).toList.map (fun f => (f.name != "_", f.type, f.offset)) = [(true, 3, 0), (true, 3, 1)] := by kernel_rfl
  obtain ⟨L, hL⟩ : ∃ L, (Try.prog.fieldsOf 37).toList = L := ⟨_, rfl⟩
  rw [hL] at hf
  match L, hf with
  | [f0, f1], hf =>
    simp only [List.map_cons, List.map_nil, List.cons.injEq, Prod.mk.injEq, bne_iff_ne, and_true] at hf
    obtain ⟨⟨n0, t0, o0⟩, n1, t1, o1⟩ := hf
    rw [run_equalIn_agg wx 9999 _ _ _ hu hp, hL, eq_fields 9998 hi _ _ a c f0 [f1] n0 t0 (by rw [o0]; rfl) (by rw [o0]; rfl), eq_fields 9998 hi _ _ b d f1 [] n1 t1 (by rw [o1]; rfl) (by rw [o1]; rfl)]
    by_cases h0 : a = c
    · by_cases h1 : b = d
      · simp [h0, h1, Op.eqFields]
      · simp [h0, h1]
    · simp [h0]
set_option maxHeartbeats 2000000 in
/-- Where a step stands in a list; -1 where it doesn't. -/
theorem dindex_any (v : Value) (xs : List StT) (x : StT) (w : World) (h : Lies 2 StT.f w v xs) :
    Calls Try.prog 38 #[v, x.v] w fun e w' => ∃ z : Int, e = .returned (.int .i64 z) ∧ decide (0 ≤ z) = (xs.any fun y => x.eq y) ∧ Below w.heap.size w w' := by
  obtain ⟨V, hV⟩ : ∃ V, (xs.any fun y => x.eq y) = V := ⟨_, rfl⟩
  rw [hV]
  obtain ⟨a, cap, rfl, _, _, _, _⟩ := id h
  obtain ⟨n, hn⟩ : ∃ n, xs.length = n := ⟨_, rfl⟩
  rw [hn] at h ⊢
  have hl := h.len
  unfold maxLen at hl
  have hm : n ≤ 9223372036854775807 := by omega
  have H : Hid (Lies 2 StT.f w (.slice a n cap) xs) := h
  have HV : Hid ((xs.drop 0).any (fun y => x.eq y) = V) := hV
  have HN : Hid (xs.length = n) := hn
  obtain ⟨kd, rk⟩ := x
  unfold StT.v
  clear h hl hV hn
  go_enter Try.func38, Try.ntmps38
  go_upto_region 1 with fail
  refine wp_letter (fun wx => ∃ g, w.heap.size = g ∧ Blk wx g 37 (StT.f ⟨kd, rk⟩) ∧ Below w.heap.size w wx) ⟨_, rfl, Blk.fresh _ _ (StT.f ⟨kd, rk⟩), below_alloc (Below.refl _ _) _⟩ ?_
  rintro W ⟨g, eg, bg, hW⟩
  rw [eg]
  clear eg
  have c0 := bg.cell 0 _ rfl
  have c1 := bg.cell 1 _ rfl
  go_wp2
  go_loopw [8] (fun i wr => ∃ k : Nat, k ≤ n ∧ i = .int .i64 k ∧ ((xs.drop k).any fun y => StT.eq ⟨kd, rk⟩ y) = V ∧ ∃ m, wr = W.drewN m) (fun i _ => n - (intOf i).toNat)
  case atStart => exact ⟨0, Nat.zero_le _, rfl, HV.out, 0, rfl⟩
  case round =>
  obtain ⟨k, hk, rfl, hr, m, rfl⟩ := hrel
  by_cases hlt : k < n
  · obtain ⟨b, off, x, rfl, hx, hmem, d0, d1⟩ := H.out.st k hlt
    replace d0 := cell_keep hW d0
    replace d1 := cell_keep hW d1
    have e : ((xs.drop k).any fun y => StT.eq ⟨kd, rk⟩ y) = (StT.eq ⟨kd, rk⟩ x || (xs.drop (k + 1)).any fun y => StT.eq ⟨kd, rk⟩ y) := by
      obtain ⟨hk', rfl⟩ := List.getElem?_eq_some_iff.1 hx
      rw [List.drop_eq_getElem_cons hk']
      rfl
    rw [e] at hr
    obtain ⟨xa, xb⟩ := x
    simp only at d0 d1
    have k0 : (0 : Int) ≤ (k : Int) := by omega
    have k1 : (k : Int) < (n : Int) := by omega
    have HR : Hid ((StT.eq ⟨kd, rk⟩ ⟨xa, xb⟩ || (xs.drop (k + 1)).any fun y => StT.eq ⟨kd, rk⟩ y) = V) := hr
    clear hr e hx hmem HV
    by_cases g0 : kd = xa ∧ rk = xb
    · have zq : ∀ wx, (Op.equalIn 10000 37 (.agg #[.int .i64 kd, .int .i64 rk]) (.agg #[.int .i64 xa, .int .i64 xb])).run Try.prog wx = .ok true wx := fun wx => by rw [eq_st, decide_eq_true g0]
      obtain ⟨rfl, rfl⟩ := g0
      go_wp2
      go_quiet (fail)
      go_wp2
      go_ret
      exact ⟨_, rfl, by rw [← HR.out]; simp [StT.eq], below_draws (below_draws hW _) _⟩
    · have HZ : Hid (StT.eq ⟨kd, rk⟩ ⟨xa, xb⟩ = false) := decide_eq_false g0
      have zq : ∀ wx, (Op.equalIn 10000 37 (.agg #[.int .i64 kd, .int .i64 rk]) (.agg #[.int .i64 xa, .int .i64 xb])).run Try.prog wx = .ok false wx := fun wx => by rw [eq_st, decide_eq_false g0]
      go_wp2
      go_quiet (fail)
      go_wp2
      go_roundw
      case rel => exact ⟨k + 1, by omega, by go_num, by rw [← HR.out, HZ.out]; rfl, _, rfl⟩
      case measure => simp [intOf]; omega
  · have HE : Hid (V = false) := by
      show V = false
      rw [← hr, List.drop_eq_nil_of_le (by rw [HN.out]; omega)]
      rfl
    clear hr HV
    go_wp2
    go_ret
    exact ⟨_, rfl, by rw [HE.out]; rfl, below_draws hW _⟩
theorem dcontains_any (v : Value) (xs : List StT) (x : StT) (w : World) (h : Lies 2 StT.f w v xs) :
    Calls Try.prog 27 #[v, x.v] w fun e w' => e = .returned (.bool (xs.any fun y => x.eq y)) ∧ Below w.heap.size w w' := by
  have H : Hid (Lies 2 StT.f w v xs) := h
  obtain ⟨a, cap, rfl, _, _, _, _⟩ := h
  unfold StT.v
  go_enter Try.func27, Try.ntmps27
  go_wp2_with (go_at_call 38; refine (dindex_any _ xs x _ (H.out.below (below_alloc (Below.refl _ _) _))).mono ?_; rintro e w1 ⟨z, rfl, hz, d1⟩; have HZ : Hid (decide (0 ≤ z) = (xs.any fun y => x.eq y)) := hz; clear hz)
  go_ret
  exact ⟨ret_bool HZ.out, below_then (below_alloc (Below.refl _ _) _) d1⟩
end Go.Proofs.Ytamdmicdieeolaa
