/-
  Package sheet: a sheet in memory; the walks of New, has, Balance, Count, Balances.
-/
import Derived.Test.YtolbgemaildbkaaEnt
import Derived.Test.YtolbgemaildbkaaBookMem
import Derived.Deep.WholeRow
namespace Go.Proofs.Ytolbgemaildbkaa
open Go.RowKit

/-- The cells of a sheet. -/
def shC (n : Nat) (bal : List Int) (c : Int) : List Value := .int .i64 n :: (bal.map (Value.int .i64) ++ [.int .i64 c])
/-- At block b lies a sheet: so many accounts, these balances (64 places), so many posts. -/
structure Sht (w : World) (b n : Nat) (bal : List Int) (c : Int) : Prop where
  blk : Blk w b 50 (shC n bal c)
  len : bal.length = 64
  n64 : n ≤ 64

section
variable {w w' : World} {b n : Nat} {bal : List Int} {c : Int}
theorem Sht.lt (h : Sht w b n bal c) : b < w.heap.size := h.blk.lt
theorem Sht.then (h : Sht w b n bal c) (k : Below w.heap.size w w') : Sht w' b n bal c := ⟨h.blk.then k, h.len, h.n64⟩
theorem Sht.rest {g : Nat} (h : Sht w b n bal c) (k : Rest g w w') (hb : b ≠ g) : Sht w' b n bal c := ⟨h.blk.rest k hb, h.len, h.n64⟩
theorem Sht.c0 (h : Sht w b n bal c) : w.cell? ⟨b, 0, none⟩ = some (.int .i64 n) := h.blk.cell 0 _ rfl
theorem Sht.cb (h : Sht w b n bal c) (i : Nat) (hi : i < 64) : w.cell? ⟨b, 1 + i, none⟩ = some (.int .i64 (bal.getD i 0)) := by
  refine h.blk.cell _ _ ?_
  have := h.len
  rw [shC, Nat.add_comm, List.getElem?_cons_succ, List.getElem?_append_left (by simp; omega), List.getElem?_map, List.getElem?_eq_getElem (by omega)]
  simp [this, hi]
theorem Sht.cc (h : Sht w b n bal c) : w.cell? ⟨b, 65, none⟩ = some (.int .i64 c) := by
  refine h.blk.cell _ _ ?_
  have := h.len
  rw [shC, List.getElem?_cons_succ, List.getElem?_append_right (by simp; omega)]
  simp [this]
end

/-- How many accounts. -/
def accN (k : Int) : Nat := (min (max k 0) 64).toNat

theorem Try.info_sheet : (Try.prog.info? 50).map (fun i => (i.zero, i.size)) = some (some (.agg (List.replicate 66 (Value.int .i64 0)).toArray), 66) := by kernel_rfl
theorem new_cells (n : Nat) : (List.replicate 66 (Value.int .i64 0)).toArray.setIfInBounds 0 (.int .i64 n) = (shC n (List.replicate 64 0) 0).toArray := by
  rw [shC, List.map_replicate, List.setIfInBounds_toArray]
  rfl

set_option maxRecDepth 100000 in
set_option maxHeartbeats 2000000 in
theorem new_any (k : Int) (w : World) : Calls Try.prog 8 #[.int .i64 k] w fun e w' => e = .returned (.pointer (some ⟨w.heap.size, 0, none⟩)) ∧ Sht w' w.heap.size (accN k) (List.replicate 64 0) 0 ∧ Below w.heap.size w w' := by
  obtain ⟨n, hn⟩ : ∃ n, accN k = n := ⟨_, rfl⟩
  rw [hn]
  have hn64 : n ≤ 64 := by rw [← hn]; unfold accN; omega
  have e1 : ∃ m, max k 0 = m := ⟨_, rfl⟩
  obtain ⟨m, e1⟩ := e1
  have e2 : min m 64 = (n : Int) := by rw [← e1, ← hn]; unfold accN; omega
  have e3 : (if k < 0 then (0 : Int) else k) = m := by rw [← e1]; split <;> omega
  have e4 : (if (64 : Int) < m then (64 : Int) else m) = n := by rw [← e2]; split <;> omega
  obtain ⟨hz, _⟩ := zero_of_info Try.info_sheet
  have hs := new_cells n
  have hne : ¬ ((List.replicate 66 (Value.int .i64 0)).toArray = #[]) := by simp
  generalize (List.replicate 66 (Value.int .i64 0)).toArray = Z at hz hs hne
  generalize hC : shC n (List.replicate 64 0) 0 = C at hs
  have HC : Hid (shC n (List.replicate 64 0) 0 = C) := hC
  clear hn hC
  go_enter Try.func8, Try.ntmps8
  go_wp2
  go_ret
  exact ⟨rfl, ⟨by rw [HC.out]; exact Blk.fresh _ _ _, by simp, hn64⟩, below_alloc (Below.refl _ _) _⟩

theorem has_any (a : Int) (b n : Nat) (bal : List Int) (c : Int) (w : World) (h : Sht w b n bal c) :
    Calls Try.prog 22 #[.pointer (some ⟨b, 0, none⟩), .int .i64 a] w fun e w' => e = .returned (.bool (decide (0 ≤ a) && decide (a < n))) ∧ w' = w := by
  have h0 := h.c0
  clear h
  by_cases g0 : 0 ≤ a
  · go_enter Try.func22, Try.ntmps22
    go_wp2
    go_ret
    exact ⟨ret_bool (by simp [g0]), rfl⟩
  · go_enter Try.func22, Try.ntmps22
    go_wp2
    go_ret
    exact ⟨ret_bool (by rw [decide_eq_false (p := 0 ≤ a) (by omega)]; rfl), rfl⟩

theorem count_any (b n : Nat) (bal : List Int) (c : Int) (w : World) (h : Sht w b n bal c) :
    Calls Try.prog 13 #[.pointer (some ⟨b, 0, none⟩)] w fun e w' => e = .returned (.int .i64 c) ∧ w' = w := by
  have h0 := h.cc
  clear h
  go_enter Try.func13, Try.ntmps13
  go_wp2
  go_ret
  exact ⟨rfl, rfl⟩
/-- What an account has. -/
def balAt (n : Nat) (bal : List Int) (a : Int) : Int := if 0 ≤ a ∧ a < n then bal.getD a.toNat 0 else 0

theorem balance_any (a : Int) (b n : Nat) (bal : List Int) (c : Int) (w : World) (h : Sht w b n bal c) :
    Calls Try.prog 17 #[.pointer (some ⟨b, 0, none⟩), .int .i64 a] w fun e w' => e = .returned (.int .i64 (balAt n bal a)) ∧ w' = w := by
  have hn := h.n64
  by_cases g : 0 ≤ a ∧ a < n
  · have hb : (decide (0 ≤ a) && decide (a < n)) = true := by simp [g]
    have e : balAt n bal a = bal.getD a.toNat 0 := if_pos g
    obtain ⟨i, rfl⟩ := Int.eq_ofNat_of_zero_le g.1
    have hc := h.cb i (by omega)
    rw [e]
    simp only [Int.toNat_natCast] at hc ⊢
    generalize bal.getD i 0 = x at hc
    have H : Hid (Sht w b n bal c) := h
    have HB : Hid ((decide (0 ≤ (i : Int)) && decide ((i : Int) < n)) = true) := hb
    have i1 : (i : Int) < 64 := by omega
    clear h e hb
    go_enter Try.func17, Try.ntmps17
    go_wp2_with (go_at_call 22; refine (has_any _ _ _ _ _ _ H.out).mono ?_; rintro e wq ⟨rfl, hq⟩; have hq := hq.symm; subst hq; rw [HB.out])
    go_ret
    exact ⟨rfl, rfl⟩
  · have hb : (decide (0 ≤ a) && decide (a < n)) = false := by simp only [Bool.and_eq_false_iff, decide_eq_false_iff_not]; omega
    have e : balAt n bal a = 0 := if_neg g
    rw [e]
    have H : Hid (Sht w b n bal c) := h
    have HB : Hid ((decide (0 ≤ a) && decide (a < n)) = false) := hb
    clear h e hb
    go_enter Try.func17, Try.ntmps17
    go_wp2_with (go_at_call 22; refine (has_any _ _ _ _ _ _ H.out).mono ?_; rintro e wq ⟨rfl, hq⟩; have hq := hq.symm; subst hq; rw [HB.out])
    go_ret
    exact ⟨rfl, rfl⟩

set_option maxHeartbeats 1000000 in
theorem balances_any (b n : Nat) (bal : List Int) (c : Int) (w : World) (h : Sht w b n bal c) :
    Calls Try.prog 12 #[.pointer (some ⟨b, 0, none⟩)] w fun e w' => e = .returned (.slice (some ⟨w.heap.size, 0, none⟩) n n) ∧
      Reads w' (.slice (some ⟨w.heap.size, 0, none⟩) n n) (bal.take n) ∧ Below w.heap.size w w' := by
  obtain ⟨i0, hi, hz0, hz1, hz2⟩ := info_parts Try.info_ints
  have hn := h.n64
  have hc0 := h.c0
  have H : Hid (Sht w b n bal c) := h
  clear h
  go_enter Try.func12, Try.ntmps12
  go_upto_region 2 with (at_make; refine wpList_make_full _ rfl _ _ 29 rfl w.heap.size 3 i0 (.int .i64 0) 1 Try.underlying29 hi hz0 hz1 .i64 .i64 _ _ n rfl rfl (by simp) (by simp) (by rw [hz2]; omega) (by unfold maxLen; omega) (Nat.le_refl _) ?_; intro w1 o1 g1)
  obtain ⟨Z, hZ⟩ : ∃ Z, (List.replicate n (0 : Int)).map (Value.int .i64) = Z := ⟨_, rfl⟩
  obtain ⟨cs, hcs⟩ : ∃ cs, (bal.take n).map (Value.int .i64) = cs := ⟨_, rfl⟩
  have b1 : Below w.heap.size w w1 := below_grown (Below.refl _ _) g1 (fun k hk => by simp at hk)
  have h1 := H.out.then b1
  have C1 : Hid (w1.heap[w.heap.size]? = some (.cells Z.toArray 3 (0, 0))) := by
    rw [made_zeros, hZ] at o1
    exact (own_block o1).1
  have hl : cs.length = n := by rw [← hcs, List.length_map, List.length_take, H.out.len]; omega
  have C2 : Hid (cs.length = Nat.min 64 n) := by
    show _ = _
    rw [hl]
    exact (Nat.min_eq_right (by omega)).symm
  have C3 : Hid (0 < cs.length → some (⟨w.heap.size, 0, none⟩ : Addr) = some ⟨w.heap.size, 0, none⟩ ∧ ∃ ad, some (⟨b, 1, none⟩ : Addr) = some ad ∧ ∀ j v, cs[j]? = some v → w1.cell? (ad.add j) = some v) := by
    intro _
    refine ⟨rfl, _, rfl, fun j v hv => ?_⟩
    have hj : j < n := by rw [← hl]; exact (List.getElem?_eq_some_iff.1 hv).1
    rw [Addr.add_lit]
    show w1.cell? ⟨b, 1 + j, none⟩ = _
    rw [h1.cb j (by omega), ← hv, ← hcs, List.getElem?_map, List.getElem?_take, if_pos hj, List.getElem?_eq_getElem (by rw [H.out.len]; omega)]
    simp [H.out.len, show j < 64 by omega]
  have C4 : Hid (0 + cs.length ≤ Z.length) := by
    show _ ≤ _
    rw [hl, ← hZ]
    simp
  have C5 : Hid (Below w.heap.size w w1) := b1
  have C6 : Hid (∀ v ∈ cs, v.oneCell' = true) := by rw [← hcs]; exact ints_oneCell' _
  have HS : Hid (splice Z 0 cs = (bal.take n).map (Value.int .i64)) := by
    show _ = _
    rw [← hcs] at hl ⊢
    unfold splice
    rw [hl, ← hZ]
    simp
  have HL : Hid ((bal.take n).length = n) := by show _ = _; rw [List.length_take, H.out.len]; omega
  clear hZ hcs hl b1 o1 g1 h1
  go_wp2_with (refine wpList_copy_splice rfl (.tmp 9) (.tmp 13) 29 29 rfl 3 Try.underlying29 (by rw [hi]; simp [hz1]) _ _ _ _ _ _ rfl rfl w.heap.size 0 Z 3 C1.out cs C2.out C3.out C4.out C6.out w.heap.size w C5.out (Nat.le_refl _) ?_; intro w2 hg2 hb2)
  have own2 : w2.ownsRow w.heap.size 3 1 (.slice (some ⟨w.heap.size, 0, none⟩) n n) n ((bal.take n).map (Value.int .i64)) := by
    have := hg2.out
    rw [HS.out] at this
    exact own_of_block this (Nat.le_refl _) (by rw [List.length_map]; exact HL.out) (by unfold maxLen; omega)
  go_ret
  exact ⟨rfl, own_reads own2, hb2⟩
end Go.Proofs.Ytolbgemaildbkaa
