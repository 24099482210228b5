/-
  Package deal: the walks of balances, originals, sum, rightNumbers.
-/
import Derived.Test.YtamdmicdieeolaaDeal3
import Derived.Test.YtamdmicdieeolaaCopyMany
namespace Go.Proofs.Ytamdmicdieeolaa
open Go.RowKit

theorem Try.info_int : (Try.prog.info? 3).map (fun i => (i.zero, i.size, i.bytes)) = some (some (.int .i64 0), 1, 8) := by kernel_rfl
theorem made_ints (n : Nat) : (madeCells (Value.int .i64 0).cells (n * 1)).toList = (List.replicate n (0 : Int)).map (Value.int .i64) := by
  apply List.ext_getElem
  · simp [size_madeCells]
  · intro i h1 h2
    simp [madeCells, Value.cells, Nat.mod_one]
/-- The numbers so far laid, of n. -/
def laidN (zs : List Int) (k : Nat) : List Int := zs.take k ++ List.replicate (zs.length - k) 0
theorem laidN_next (zs : List Int) (k : Nat) (z : Int) (h : zs[k]? = some z) : (laidN zs k).set k z = laidN zs (k + 1) := by
  obtain ⟨hk, rfl⟩ := List.getElem?_eq_some_iff.1 h
  unfold laidN
  obtain ⟨m, hm⟩ : ∃ m, zs.length - k = m + 1 := ⟨zs.length - k - 1, by omega⟩
  have e : (zs.take k).length = k := by rw [List.length_take]; omega
  rw [hm, show zs.length - (k + 1) = m by omega, List.replicate_succ, List.take_succ_eq_append_getElem hk, List.set_append_right _ _ (by omega), e, Nat.sub_self, List.set_cons_zero, List.append_assoc]
  rfl
theorem laidN_at (zs : List Int) (k : Nat) (h : k < zs.length) : (laidN zs k)[k]? = some 0 := by
  unfold laidN
  have e : (zs.take k).length = k := by rw [List.length_take]; omega
  rw [List.getElem?_append_right (by omega), e, Nat.sub_self, List.getElem?_replicate, if_pos (by omega)]
theorem laidN_all (zs : List Int) : laidN zs zs.length = zs := by simp [laidN]
theorem laidN_start (zs : List Int) : laidN zs 0 = List.replicate zs.length 0 := by simp [laidN]
theorem blk_reads {w : World} {g : Nat} {t : TypeId} {W : List Int} {n : Nat} (h : Blk w g t (W.map (Value.int .i64))) (hn : W.length = n) (hm : n ≤ maxLen) : Reads w (.slice (some ⟨g, 0, none⟩) n n) W := by
  subst hn
  refine ⟨_, W.length, rfl, Nat.le_refl _, hm, Or.inr ⟨g, 0, rfl, fun i hi => ?_⟩⟩
  have := h.cell i (.int .i64 (W.getD i 0)) (by rw [List.getElem?_map, List.getElem?_eq_getElem hi]; simp [hi])
  rw [Nat.zero_add]
  exact this

set_option maxHeartbeats 2000000 in
theorem balances_any (v : Value) (xs : List LnT) (w : World) (h : Lies 2 LnT.f w v xs) (hb : xs.length ≤ 1000) :
    Calls Try.prog 21 #[v] w fun e w' => ∃ v', e = .returned v' ∧ Reads w' v' (xs.map LnT.bal) ∧ Below w.heap.size w w' := by
  obtain ⟨i0, hi, hz0, hz1, hz2⟩ := info_parts Try.info_int
  obtain ⟨a, cap, rfl, _, _, _, _⟩ := id h
  obtain ⟨n, hn⟩ : ∃ n, xs.length = n := ⟨_, rfl⟩
  rw [hn] at h hb ⊢
  have H : Hid (Lies 2 LnT.f w (.slice a n cap) xs) := h
  have hnz : (xs.map LnT.bal).length = n := by rw [List.length_map, hn]
  have HZ : Hid (∀ (k : Nat) (x : LnT), xs[k]? = some x → (xs.map LnT.bal)[k]? = some x.bal) := fun k x hx => by rw [List.getElem?_map, hx]; rfl
  obtain ⟨zs, hzs⟩ : ∃ zs, xs.map LnT.bal = zs := ⟨_, rfl⟩
  rw [hzs] at hnz HZ ⊢
  have HN : Hid (zs.length = n) := hnz
  clear h hn hzs
  go_enter Try.func21, Try.ntmps21
  go_upto_region 2 with (at_make; refine wpList_make_full _ rfl _ _ 40 rfl w.heap.size 3 i0 (.int .i64 0) 1 Try.underlying40 hi hz0 hz1 .i64 .i64 _ _ n rfl rfl (by simp) (by simp) (by rw [hz2]; omega) (by unfold maxLen; omega) (Nat.le_refl _) ?_; intro w1 o1 g1)
  have b1 : Below w.heap.size w w1 := below_grown (Below.refl _ _) g1 (fun k hk => by simp at hk)
  rw [made_ints, ← hnz, ← laidN_start, hnz] at o1
  have hB1 := own_blk o1
  obtain ⟨G, hG⟩ : ∃ G, w.heap.size = G := ⟨_, rfl⟩
  have hGw : w.heap.size ≤ G := Nat.le_of_eq hG
  rw [hG] at hB1 ⊢
  clear o1 g1 hnz hG
  go_upto_region 3 with fail
  go_loopw [11] (fun i wr => ∃ (k : Nat), k ≤ n ∧ i = .int .i64 k ∧ Below w.heap.size w wr ∧ Blk wr G 3 ((laidN zs k).map (Value.int .i64))) (fun i _ => n - (intOf i).toNat)
  case atStart => exact ⟨0, Nat.zero_le _, rfl, b1, hB1⟩
  case round =>
  clear b1 hB1
  obtain ⟨k, hk, rfl, hB, bG⟩ := hrel
  by_cases hlt : k < n
  · obtain ⟨b, off, x, rfl, hx, hmem, d0, d1⟩ := H.out.ln k hlt
    replace d0 := cell_keep hB d0
    replace d1 := cell_keep hB d1
    have hz := HZ.out k x hx
    have HS : Hid ((laidN zs k).set k x.bal = laidN zs (k + 1)) := laidN_next zs k _ hz
    have k0 : (0 : Int) ≤ (k : Int) := by omega
    have k1 : (k : Int) < (n : Int) := by omega
    obtain ⟨id, bal⟩ := x
    simp only at d0 d1
    clear hx hmem hz
    go_upto_region 5 with fail
    refine wp_letter (fun wx => ∃ g, wr.heap.size = g ∧ Blk wx g 46 (LnT.f ⟨id, bal⟩) ∧ Below wr.heap.size wr wx) ⟨_, rfl, Blk.fresh _ _ (LnT.f ⟨id, bal⟩), below_alloc (Below.refl _ _) _⟩ ?_
    rintro W ⟨g, eg, bg, hW⟩
    rw [eg]
    have bGW := bG.then hW
    clear eg d0 d1 bG
    have c1 := bg.cell 1 _ rfl
    have f0 := bGW.frozen k
    have e0 := bGW.cell k (.int .i64 0) (by rw [List.getElem?_map, laidN_at zs k (by rw [HN.out]; exact hlt)]; rfl)
    have hBW := below_then hB hW
    go_wp2
    go_roundw
    case rel =>
      refine ⟨k + 1, by omega, by go_num, hBW.setCell hGw _, ?_⟩
      have s := bGW.set k (.int .i64 bal)
      rw [← List.map_set, HS.out] at s
      exact s
    case measure => simp [intOf]; omega
  · obtain rfl : k = n := by omega
    have e : laidN zs k = zs := by have := laidN_all zs; rw [HN.out] at this; exact this
    rw [e] at bG
    have HR : Hid (Reads wr (.slice (some ⟨G, 0, none⟩) k k) zs) := blk_reads bG HN.out (by unfold maxLen; omega)
    clear bG e
    go_wp2
    go_ret
    exact ⟨_, rfl, HR.out, hB⟩
set_option maxHeartbeats 2000000 in
theorem originals_any (v : Value) (xs : List TrT) (w : World) (h : Lies 3 TrT.f w v xs) (hb : xs.length ≤ 1000) :
    Calls Try.prog 22 #[v] w fun e w' => ∃ v', e = .returned v' ∧ Reads w' v' (xs.map TrT.og) ∧ Below w.heap.size w w' := by
  obtain ⟨i0, hi, hz0, hz1, hz2⟩ := info_parts Try.info_int
  obtain ⟨a, cap, rfl, _, _, _, _⟩ := id h
  obtain ⟨n, hn⟩ : ∃ n, xs.length = n := ⟨_, rfl⟩
  rw [hn] at h hb ⊢
  have H : Hid (Lies 3 TrT.f w (.slice a n cap) xs) := h
  have hnz : (xs.map TrT.og).length = n := by rw [List.length_map, hn]
  have HZ : Hid (∀ (k : Nat) (x : TrT), xs[k]? = some x → (xs.map TrT.og)[k]? = some x.og) := fun k x hx => by rw [List.getElem?_map, hx]; rfl
  obtain ⟨zs, hzs⟩ : ∃ zs, xs.map TrT.og = zs := ⟨_, rfl⟩
  rw [hzs] at hnz HZ ⊢
  have HN : Hid (zs.length = n) := hnz
  clear h hn hzs
  go_enter Try.func22, Try.ntmps22
  go_upto_region 2 with (at_make; refine wpList_make_full _ rfl _ _ 40 rfl w.heap.size 3 i0 (.int .i64 0) 1 Try.underlying40 hi hz0 hz1 .i64 .i64 _ _ n rfl rfl (by simp) (by simp) (by rw [hz2]; omega) (by unfold maxLen; omega) (Nat.le_refl _) ?_; intro w1 o1 g1)
  have b1 : Below w.heap.size w w1 := below_grown (Below.refl _ _) g1 (fun k hk => by simp at hk)
  rw [made_ints, ← hnz, ← laidN_start, hnz] at o1
  have hB1 := own_blk o1
  obtain ⟨G, hG⟩ : ∃ G, w.heap.size = G := ⟨_, rfl⟩
  have hGw : w.heap.size ≤ G := Nat.le_of_eq hG
  rw [hG] at hB1 ⊢
  clear o1 g1 hnz hG
  go_upto_region 3 with fail
  go_loopw [11] (fun i wr => ∃ (k : Nat), k ≤ n ∧ i = .int .i64 k ∧ Below w.heap.size w wr ∧ Blk wr G 3 ((laidN zs k).map (Value.int .i64))) (fun i _ => n - (intOf i).toNat)
  case atStart => exact ⟨0, Nat.zero_le _, rfl, b1, hB1⟩
  case round =>
  clear b1 hB1
  obtain ⟨k, hk, rfl, hB, bG⟩ := hrel
  by_cases hlt : k < n
  · obtain ⟨b, off, x, rfl, hx, hmem, d0, d1, d2⟩ := H.out.tr k hlt
    replace d0 := cell_keep hB d0
    replace d1 := cell_keep hB d1
    replace d2 := cell_keep hB d2
    have hz := HZ.out k x hx
    have HS : Hid ((laidN zs k).set k x.og = laidN zs (k + 1)) := laidN_next zs k _ hz
    have k0 : (0 : Int) ≤ (k : Int) := by omega
    have k1 : (k : Int) < (n : Int) := by omega
    obtain ⟨rk, og, rt⟩ := x
    simp only at d0 d1 d2
    clear hx hmem hz
    go_upto_region 5 with fail
    refine wp_letter (fun wx => ∃ g, wr.heap.size = g ∧ Blk wx g 32 (TrT.f ⟨rk, og, rt⟩) ∧ Below wr.heap.size wr wx) ⟨_, rfl, Blk.fresh _ _ (TrT.f ⟨rk, og, rt⟩), below_alloc (Below.refl _ _) _⟩ ?_
    rintro W ⟨g, eg, bg, hW⟩
    rw [eg]
    have bGW := bG.then hW
    clear eg d0 d1 d2 bG
    have c1 := bg.cell 1 _ rfl
    have f0 := bGW.frozen k
    have e0 := bGW.cell k (.int .i64 0) (by rw [List.getElem?_map, laidN_at zs k (by rw [HN.out]; exact hlt)]; rfl)
    have hBW := below_then hB hW
    go_wp2
    go_roundw
    case rel =>
      refine ⟨k + 1, by omega, by go_num, hBW.setCell hGw _, ?_⟩
      have s := bGW.set k (.int .i64 og)
      rw [← List.map_set, HS.out] at s
      exact s
    case measure => simp [intOf]; omega
  · obtain rfl : k = n := by omega
    have e : laidN zs k = zs := by have := laidN_all zs; rw [HN.out] at this; exact this
    rw [e] at bG
    have HR : Hid (Reads wr (.slice (some ⟨G, 0, none⟩) k k) zs) := blk_reads bG HN.out (by unfold maxLen; omega)
    clear bG e
    go_wp2
    go_ret
    exact ⟨_, rfl, HR.out, hB⟩

theorem dsum_any (v : Value) (zs : List Int) (w : World) (h : Reads w v zs) :
    Calls Try.prog 24 #[v] w fun e w' => e = .returned (.int .i64 ((sumFrom zs 0).getD 0)) ∧ w' = w := by
  obtain ⟨S, hS⟩ : ∃ S, (sumFrom zs 0).getD 0 = S := ⟨_, rfl⟩
  have HS : Hid ((sumFrom zs 0).getD 0 = S) := hS
  have HR : Hid (Reads w v zs) := h
  rw [hS]
  obtain ⟨a, cap, rfl, _, _, _⟩ := h
  clear hS
  go_enter Try.func24, Try.ntmps24
  go_wp2_with (go_at_call 20; refine (sum_any _ zs _ HR.out).mono ?_; rintro e wq ⟨rfl, hq⟩; have hq := hq.symm; subst hq; rw [HS.out])
  go_ret
  exact ⟨rfl, rfl⟩

end Go.Proofs.Ytamdmicdieeolaa
