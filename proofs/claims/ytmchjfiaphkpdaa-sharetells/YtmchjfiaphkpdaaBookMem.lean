/-
  Package cascadebook at numbers: the walks of Roomy, Same, Intact.
-/
import Derived.Test.YtmchjfiaphkpdaaMem
import Derived.Laws.CopyOwn
namespace Go.Proofs.Ytmchjfiaphkpdaa
open Go.RowKit

theorem Try.info_ints : (Try.prog.info? 3).map (fun i => (i.zero, i.size, i.bytes)) = some (some (.int .i64 0), 1, 8) := by kernel_rfl

/-- The list that Roomy makes, as far as the marks are laid. -/
def roomAt (zs : List Int) (mark : Int) (j : Nat) : List Int := zs ++ List.replicate j mark ++ List.replicate (80 - j) 0

theorem roomAt_next (zs : List Int) (mark : Int) (j : Nat) (h : j < 80) : ((roomAt zs mark j).map (Value.int .i64)).set (zs.length + j) (.int .i64 mark) = (roomAt zs mark (j + 1)).map (Value.int .i64) := by
  unfold roomAt
  rw [← List.map_set]
  congr 1
  obtain ⟨m, hm⟩ : ∃ m, 80 - j = m + 1 := ⟨79 - j, by omega⟩
  rw [hm, show 80 - (j + 1) = m by omega, List.replicate_succ (n := m), List.set_append_right _ _ (by simp), List.replicate_succ']
  simp

theorem own_block {w : World} {base : Nat} {e : TypeId} {g n : Nat} {xs : List Value} (h : w.ownsRow base e 1 (.slice (some ⟨g, 0, none⟩) n n) n xs) : w.heap[g]? = some (.cells xs.toArray e (0, 0)) ∧ base ≤ g := by
  rcases h.2 with ⟨h', _⟩ | ⟨g', cap, cur, e', hb, hh, _, _, hs, ht⟩
  · simp at h'
  · simp only [Value.slice.injEq, Option.some.injEq, Addr.mk.injEq] at e'
    obtain ⟨⟨rfl, _⟩, _, rfl⟩ := e'
    have : cur = xs.toArray := by
      rw [List.take_of_length_le (by simp [hs])] at ht
      rw [← ht]
    rw [this] at hh
    exact ⟨hh, hb⟩

theorem own_of_block {w : World} {base : Nat} {e : TypeId} {g n : Nat} {xs : List Value} (h : w.heap[g]? = some (.cells xs.toArray e (0, 0))) (hb : base ≤ g) (hn : xs.length = n) (hm : n ≤ maxLen) : w.ownsRow base e 1 (.slice (some ⟨g, 0, none⟩) n n) n xs :=
  ⟨by simpa using hn, Or.inr ⟨g, n, xs.toArray, rfl, hb, h, Nat.le_refl _, hm, by simpa using hn, by rw [List.take_of_length_le (by simp; omega)]⟩⟩

theorem made_zeros (n : Nat) : (madeCells (Value.int .i64 0).cells (n * 1)).toList = (List.replicate n (0 : Int)).map (Value.int .i64) := by
  rw [Nat.mul_one]
  apply List.ext_getElem
  · simp [size_madeCells]
  · intro i h1 h2
    simp [madeCells, Value.cells, Nat.mod_one]

theorem splice_room (zs : List Int) (mark : Int) : splice ((List.replicate (zs.length + 80) (0 : Int)).map (Value.int .i64)) 0 (zs.map (Value.int .i64)) = (roomAt zs mark 0).map (Value.int .i64) := by
  unfold splice roomAt
  simp

set_option maxHeartbeats 1000000 in
theorem roomy_any (v : Value) (zs : List Int) (mark : Int) (w : World) (h : Reads w v zs) (hb : zs.length ≤ 1000000) :
    Calls Try.prog 13 #[v, .int .i64 mark] w fun e w' => e = .returned (.slice (some ⟨w.heap.size, 0, none⟩) (zs.length + 80) (zs.length + 80)) ∧
      w'.ownsRow w.heap.size 3 1 (.slice (some ⟨w.heap.size, 0, none⟩) (zs.length + 80) (zs.length + 80)) (zs.length + 80) ((zs ++ List.replicate 80 mark).map (Value.int .i64)) ∧ Below w.heap.size w w' := by
  obtain ⟨i0, hi, hz0, hz1, hz2⟩ := info_parts Try.info_ints
  obtain ⟨a, cap, rfl, hcap, hm, hz⟩ := id h
  obtain ⟨n, hn⟩ : ∃ n, zs.length = n := ⟨_, rfl⟩
  have HN : Hid (zs.length = n) := hn
  rw [hn] at h hb ⊢
  clear hn hcap hm
  go_enter Try.func13, Try.ntmps13
  go_upto_region 2 with (at_make; refine wpList_make_full _ rfl _ _ 23 rfl w.heap.size 3 i0 (.int .i64 0) 1 Try.underlying23 hi hz0 hz1 .i64 .i64 _ _ (n + 80) rfl rfl (by simp) (by simp) (by rw [hz2]; omega) (by unfold maxLen; omega) (Nat.le_refl _) ?_; intro w1 o1 g1)
  obtain ⟨Z, hZ⟩ : ∃ Z, (List.replicate (n + 80) (0 : Int)).map (Value.int .i64) = Z := ⟨_, rfl⟩
  obtain ⟨cs, hcs⟩ : ∃ cs, zs.map (Value.int .i64) = cs := ⟨_, rfl⟩
  have b1 : Below w.heap.size w w1 := below_grown (Below.refl _ _) g1 (fun k hk => by simp at hk)
  have C1 : Hid (w1.heap[w.heap.size]? = some (.cells Z.toArray 3 (0, 0))) := by
    rw [made_zeros, hZ] at o1
    exact (own_block o1).1
  have hl : cs.length = n := by rw [← hcs, List.length_map]; exact HN.out
  have C2 : Hid (cs.length = Nat.min n (n + 80)) := by
    show _ = _
    rw [hl]
    exact (Nat.min_eq_left (by omega)).symm
  have C3 : Hid (0 < cs.length → some (⟨w.heap.size, 0, none⟩ : Addr) = some ⟨w.heap.size, 0, none⟩ ∧ ∃ ad, a = some ad ∧ ∀ j v, cs[j]? = some v → w1.cell? (ad.add j) = some v) := by
    intro hp
    refine ⟨rfl, ?_⟩
    rw [hl] at hp
    rcases hz with rfl | ⟨b, o, rfl, _⟩
    · have := HN.out
      simp at this
      omega
    · obtain ⟨ad, c, e, _, hc⟩ := (h.below b1).src (fun c hc => by simp at hc)
      simp only [Value.slice.injEq] at e
      obtain ⟨rfl, _, _⟩ := e
      rw [hcs] at hc
      exact ⟨_, rfl, hc _ rfl⟩
  have C4 : Hid (0 + cs.length ≤ Z.length) := by
    show _ ≤ _
    rw [hl, ← hZ]
    simp
  have C5 : Hid (Below w.heap.size w w1) := b1
  have C6 : Hid (∀ v ∈ cs, v.oneCell' = true) := by rw [← hcs]; exact ints_oneCell' _
  have HS : Hid (splice Z 0 cs = (roomAt zs mark 0).map (Value.int .i64)) := by
    have e := splice_room zs mark
    rw [HN.out, hZ, hcs] at e
    exact e
  have HL : Hid (∀ j, j ≤ 80 → ((roomAt zs mark j).map (Value.int .i64)).length = n + 80) := fun j hj => by
    simp [roomAt, HN.out]; omega
  have HCL : Hid (cs.length = n) := hl
  clear hZ hcs hl hz b1 o1 g1 h
  go_wp2_with (refine wpList_copy_splice rfl (.tmp 11) (.tmp 12) 23 23 rfl 3 Try.underlying23 (by rw [hi]; simp [hz1]) _ _ _ _ _ _ rfl rfl w.heap.size 0 Z 3 C1.out cs C2.out C3.out C4.out C6.out w.heap.size w C5.out (Nat.le_refl _) ?_; intro w2 hg2 hb2)
  have own2 : w2.ownsRow w.heap.size 3 1 (.slice (some ⟨w.heap.size, 0, none⟩) (n + 80) (n + 80)) (n + 80) ((roomAt zs mark 0).map (Value.int .i64)) := by
    have := hg2.out
    rw [HS.out] at this
    exact own_of_block this (Nat.le_refl _) (HL.out 0 (by omega)) (by unfold maxLen; omega)
  clear hg2 C1 C2 C3 C4 C5 C6 HS HCL
  go_loopw [6] (fun i wr => ∃ j : Nat, j ≤ 80 ∧ i = .int .i64 (n + j) ∧ wr.ownsRow w.heap.size 3 1 (.slice (some ⟨w.heap.size, 0, none⟩) (n + 80) (n + 80)) (n + 80) ((roomAt zs mark j).map (Value.int .i64)) ∧ Below w.heap.size w wr) (fun i _ => n + 80 - (intOf i).toNat)
  case atStart => exact ⟨0, by omega, by simp, own2, hb2⟩
  case round =>
    obtain ⟨j, hj, rfl, ho, hbl⟩ := hrel
    by_cases hlt : j < 80
    · have hst := ho.stored (n + j) (.int .i64 mark)
      have hnx := roomAt_next zs mark j hlt
      rw [HN.out] at hnx
      rw [hnx] at hst
      have hcell : wr.cell? ⟨w.heap.size, n + j, none⟩ = some (((roomAt zs mark j).map (Value.int .i64)).getD (n + j) undef) := by
        have := ho.cellAt (n + j) (by omega)
        rw [this, List.getElem?_eq_getElem (by rw [HL.out j hj]; omega)]
        rw [List.getD_eq_getElem?_getD, List.getElem?_eq_getElem (by rw [HL.out j hj]; omega)]
        rfl
      generalize ((roomAt zs mark j).map (Value.int .i64)).getD (n + j) undef = x at hcell
      have hfr := ho.frozenAt (n + j)
      have HST : Hid ((wr.setCell ⟨w.heap.size, n + j, none⟩ (.int .i64 mark)).ownsRow w.heap.size 3 1 (.slice (some ⟨w.heap.size, 0, none⟩) (n + 80) (n + 80)) (n + 80) ((roomAt zs mark (j + 1)).map (Value.int .i64))) := hst.1
      have HB2 : Hid (Below w.heap.size w wr) := hbl
      clear hst hnx ho own2 hb2 hbl
      go_wp2
      go_roundw
      case rel => exact ⟨j + 1, by omega, congrArg (Value.int .i64) (by omega), HST.out, HB2.out.setCell (p := ⟨w.heap.size, n + j, none⟩) (Nat.le_refl _) _⟩
      case measure => simp [intOf]; omega
    · obtain rfl : j = 80 := by omega
      have HO : Hid (wr.ownsRow w.heap.size 3 1 (.slice (some ⟨w.heap.size, 0, none⟩) (n + 80) (n + 80)) (n + 80) ((zs ++ List.replicate 80 mark).map (Value.int .i64))) := by
        have : roomAt zs mark 80 = zs ++ List.replicate 80 mark := by simp [roomAt]
        rw [this] at ho
        exact ho
      have HB2 : Hid (Below w.heap.size w wr) := hbl
      clear ho own2 hb2 hbl
      go_wp2
      go_ret
      exact ⟨rfl, HO.out, HB2.out⟩

/-- Same: two lists, number by number. -/
theorem same_at (b off cap b' off' cap' n : Nat) (xs ys : List Int) (w : World) (hx : xs.length = n) (hm : n ≤ maxLen) (heq : xs = ys)
    (hc : ∀ i, i < n → w.cell? ⟨b, off + i, none⟩ = some (.int .i64 (xs.getD i 0))) (hc' : ∀ i, i < n → w.cell? ⟨b', off' + i, none⟩ = some (.int .i64 (ys.getD i 0))) :
    Calls Try.prog 9 #[.slice (some ⟨b, off, none⟩) n cap, .slice (some ⟨b', off', none⟩) n cap'] w fun e w' => e = .returned (.bool true) ∧ ∃ m, w' = w.drewN m := by
  subst heq
  unfold maxLen at hm
  go_enter Try.func9, Try.ntmps9
  go_wp2
  go_loopw [5] (fun i wr => ∃ k : Nat, k ≤ n ∧ i = .int .i64 k ∧ ∃ m, wr = w.drewN m) (fun i _ => n - (intOf i).toNat)
  case atStart => exact ⟨0, Nat.zero_le _, rfl, 0, rfl⟩
  case round =>
    obtain ⟨k, hk, rfl, m, rfl⟩ := hrel
    by_cases hlt : k < n
    · have h1 := hc k hlt
      have h2 := hc' k hlt
      generalize xs.getD k 0 = x at h1 h2
      have k0 : (0 : Int) ≤ (k : Int) := by omega
      have k1 : (k : Int) < (n : Int) := by omega
      clear hc hc'
      go_wp2
      go_quiet (fail)
      go_wp2
      go_roundw
      case rel => exact ⟨k + 1, by omega, by go_num, _, rfl⟩
      case measure => simp [intOf]; omega
    · clear hc hc'
      go_wp2
      go_ret
      exact ⟨rfl, _, rfl⟩

theorem same_none (a a' : Option Addr) (cap cap' : Nat) (w : World) :
    Calls Try.prog 9 #[.slice a 0 cap, .slice a' 0 cap'] w fun e w' => e = .returned (.bool true) ∧ ∃ m, w' = w.drewN m := by
  go_enter Try.func9, Try.ntmps9
  go_wp2
  go_loop [5] (fun i => i = .int .i64 0) (fun _ => 0)
  case atStart => rfl
  case round =>
    subst hrel
    go_wp2
    go_ret
    exact ⟨rfl, 0, rfl⟩

theorem same_any (v v' : Value) (zs : List Int) (w : World) (h : Reads w v zs) (h' : Reads w v' zs) :
    Calls Try.prog 9 #[v, v'] w fun e w' => e = .returned (.bool true) ∧ ∃ m, w' = w.drewN m := by
  obtain ⟨a, cap, rfl, _, hm, hz⟩ := h
  obtain ⟨a', cap', rfl, _, _, hz'⟩ := h'
  rcases hz with rfl | ⟨b, off, rfl, hc⟩
  · exact same_none _ _ _ _ _
  · rcases hz' with rfl | ⟨b', off', rfl, hc'⟩
    · exact same_none _ _ _ _ _
    · exact same_at b off cap b' off' cap' _ zs zs w rfl hm rfl hc hc'

theorem cells_of_reads {w : World} {b off n cap : Nat} {zs : List Int} (h : Reads w (.slice (some ⟨b, off, none⟩) n cap) zs) : ∀ i, i < n → w.cell? ⟨b, off + i, none⟩ = some (.int .i64 (zs.getD i 0)) := by
  intro i hi
  obtain ⟨_, _, e, _, _, rfl | ⟨b', o', e', hc'⟩⟩ := h
  · simp only [Value.slice.injEq, List.length_nil] at e; omega
  · simp only [Value.slice.injEq] at e
    rw [← e.1] at e'
    simp only [Option.some.injEq, Addr.mk.injEq] at e'
    have := hc' i (by omega)
    rw [← e'.1, ← e'.2.1] at this
    exact this

set_option maxHeartbeats 1000000 in
/-- Intact: what Roomy made is as it was. -/
theorem intact_any (g n cap : Nat) (v : Value) (zs : List Int) (mark : Int) (w : World) (hn : zs.length = n) (hb : n ≤ 1000000) (hcap : n + 80 ≤ cap)
    (hf : Reads w (.slice (some ⟨g, 0, none⟩) (n + 80) cap) (zs ++ List.replicate 80 mark)) (hw : Reads w v zs) :
    Calls Try.prog 16 #[.slice (some ⟨g, 0, none⟩) (n + 80) cap, v, .int .i64 mark] w fun e w' => e = .returned (.bool true) ∧ ∃ m, w' = w.drewN m := by
  have ht := hf.take n (by omega)
  rw [← hn, List.take_left, hn] at ht
  obtain ⟨a, c, rfl, _, _, _⟩ := id hw
  rw [hn] at hw ⊢
  have hc := cells_of_reads hf
  have hmark : ∀ i, n ≤ i → i < n + 80 → w.cell? ⟨g, i, none⟩ = some (.int .i64 mark) := fun i h1 h2 => by
    have := hc i h2
    rw [Nat.zero_add] at this
    rw [this]
    congr 2
    rw [List.getD_eq_getElem?_getD, List.getElem?_append_right (by omega), List.getElem?_replicate, if_pos (by omega)]
    rfl
  clear hc hf
  go_enter Try.func16, Try.ntmps16
  go_wp2_with (go_at_call 9; refine (same_any _ _ zs _ ht hw).mono ?_; rintro e w' ⟨rfl, m0, rfl⟩)
  go_loop [7] (fun i => ∃ k : Nat, n ≤ k ∧ k ≤ n + 80 ∧ i = .int .i64 k) (fun i => n + 80 - (intOf i).toNat)
  case atStart => exact ⟨n, Nat.le_refl _, by omega, rfl⟩
  case round =>
    obtain ⟨k, h1, h2, rfl⟩ := hrel
    by_cases hlt : k < n + 80
    · have hx := hmark k h1 hlt
      clear hmark ht hw
      go_wp2
      go_round
      case rel => exact ⟨k + 1, by omega, by omega, by go_num⟩
      case measure => simp [intOf]; omega
    · clear hmark ht hw
      go_wp2
      go_ret
      exact ⟨rfl, _, rfl⟩

end Go.Proofs.Ytmchjfiaphkpdaa
