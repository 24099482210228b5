/-
  Package share: the walk of Pro, all claims in full; by parts.
-/
import Derived.Test.YtmchjfiaphkpdaaPro
namespace Go.Proofs.Ytmchjfiaphkpdaa
open Go.RowKit Go.Shelf Go.Lib Go.Sort

theorem splice_all (zs : List Int) : splice ((List.replicate zs.length (0 : Int)).map (Value.int .i64)) 0 (zs.map (Value.int .i64)) = zs.map (Value.int .i64) := by
  unfold splice
  simp

set_option maxHeartbeats 1000000 in
theorem pro_full (n s : Int) (v : Value) (zs : List Int) (w : World) (h : Reads w v zs) (hb : zs.length ≤ 1000000) (hz : sumFrom zs 0 = some s) (n0 : 0 < n) (n1 : s ≤ n) :
    Calls Try.prog 11 #[.int .i64 n, v] w fun e w' => e = .returned (.slice (some ⟨w.heap.size, 0, none⟩) zs.length zs.length) ∧
      w'.ownsRow w.heap.size 3 1 (.slice (some ⟨w.heap.size, 0, none⟩) zs.length zs.length) zs.length (zs.map (Value.int .i64)) ∧ Below w.heap.size w w' := by
  obtain ⟨i0, hi, hz0, hz1, hz2⟩ := info_parts Try.info_ints
  obtain ⟨a, cap, rfl, hcap, hm, hzc⟩ := id h
  obtain ⟨l, hl⟩ : ∃ l, zs.length = l := ⟨_, rfl⟩
  have HR : Hid (∀ w1, Below w.heap.size w w1 → Calls Try.prog 18 #[.slice a l cap] w1 fun e w' => e = .returned (.tuple #[.int .i64 s, .bool true]) ∧ w' = w1) := fun w1 b => by
    have := sum_any _ zs w1 (h.below b)
    rw [hz, hl] at this
    exact this
  have HN : Hid (zs.length = l) := hl
  rw [hl] at h hb hcap ⊢
  clear hl hm hz
  go_enter Try.func11, Try.ntmps11
  go_upto_region 2 with (at_make; refine wpList_make_full _ rfl _ _ 23 rfl w.heap.size 3 i0 (.int .i64 0) 1 Try.underlying23 hi hz0 hz1 .i64 .i64 _ _ l rfl rfl (by simp) (by simp) (by rw [hz2]; omega) (by unfold maxLen; omega) (Nat.le_refl _) ?_; intro w1 o1 g1)
  have b1 : Below w.heap.size w w1 := below_grown (Below.refl _ _) g1 (fun k hk => by simp at hk)
  have hs := HR.out w1 b1
  obtain ⟨Z, hZ⟩ : ∃ Z, (List.replicate l (0 : Int)).map (Value.int .i64) = Z := ⟨_, rfl⟩
  obtain ⟨cs, hcs⟩ : ∃ cs, zs.map (Value.int .i64) = cs := ⟨_, rfl⟩
  have C1 : Hid (w1.heap[w.heap.size]? = some (.cells Z.toArray 3 (0, 0))) := by
    rw [made_zeros, hZ] at o1
    exact (own_block o1).1
  have hl : cs.length = l := by rw [← hcs, List.length_map]; exact HN.out
  have C2 : Hid (cs.length = Nat.min l l) := by
    show _ = _
    rw [hl]
    exact (Nat.min_self _).symm
  have C3 : Hid (0 < cs.length → some (⟨w.heap.size, 0, none⟩ : Addr) = some ⟨w.heap.size, 0, none⟩ ∧ ∃ ad, a = some ad ∧ ∀ j v, cs[j]? = some v → w1.cell? (ad.add j) = some v) := by
    intro hp
    refine ⟨rfl, ?_⟩
    rw [hl] at hp
    rcases hzc with rfl | ⟨b, o, rfl, _⟩
    · have := HN.out
      simp at this
      omega
    · obtain ⟨ad, c, e, _, hc⟩ := (h.below b1).src (fun c hc => by simp at hc)
      simp only [Value.slice.injEq] at e
      obtain ⟨rfl, _, _⟩ := e
      rw [hcs] at hc
      exact ⟨_, rfl, hc _ rfl⟩
  have C4 : Hid (0 + cs.length ≤ Z.length) := by
    show _ ≤ _
    rw [hl, ← hZ]
    simp
  have C5 : Hid (Below w.heap.size w w1) := b1
  have C6 : Hid (∀ v ∈ cs, v.oneCell' = true) := by rw [← hcs]; exact ints_oneCell' _
  have HS : Hid (splice Z 0 cs = cs) := by
    have e := splice_all zs
    rw [HN.out, hZ, hcs] at e
    exact e
  have HCS : Hid (zs.map (Value.int .i64) = cs) := hcs
  have HCL : Hid ((zs.map (Value.int .i64)).length = l) := by rw [hcs]; exact hl
  clear hZ hcs hl hzc b1 o1 g1 h HR HN
  go_upto_region 6 with (go_at_call 18; refine hs.mono ?_; rintro e w' ⟨rfl, hw'⟩; have hw' := hw'.symm; subst hw')
  clear hs
  have C7 : Hid (0 < cs.length → some (⟨w.heap.size, 0, none⟩ : Addr) = some ⟨w.heap.size, 0, none⟩ ∧ ∃ ad, a = some ad ∧ ∀ j v, cs[j]? = some v → w1.cell? (ad.add j) = some v) := fun hp => ⟨rfl, (C3.out hp).2⟩
  clear C3
  go_wp2_with (refine wpList_copy_splice rfl (.tmp 32) (.tmp 33) 23 23 rfl 3 Try.underlying23 (by rw [hi]; simp [hz1]) _ _ _ _ _ _ rfl rfl w.heap.size 0 Z 3 C1.out cs C2.out C7.out C4.out C6.out w.heap.size w C5.out (Nat.le_refl _) ?_; intro w2 hg2 hb2)
  have own2 : Hid (w2.ownsRow w.heap.size 3 1 (.slice (some ⟨w.heap.size, 0, none⟩) l l) l (zs.map (Value.int .i64))) := by
    have := hg2.out
    rw [HS.out, ← HCS.out] at this
    exact own_of_block this (Nat.le_refl _) HCL.out (by unfold maxLen; omega)
  go_ret
  exact ⟨rfl, own2.out, hb2⟩

end Go.Proofs.Ytmchjfiaphkpdaa
