/-
  The walk of claims, which stage 4's laws make their numbers by.
-/
import Derived.Test.YtmchjfiaphkpdaaBook
import Derived.Test.YtmchjfiaphkpdaaBookMem
import Derived.Test.YtmchjfiaphkpdaaMulDiv
namespace Go.Proofs.Ytmchjfiaphkpdaa
open Go.RowKit

/-- The numbers that a law makes of the first k, below m. -/
def ownM (m : Int) (zs : List Int) (k : Nat) : List Int := (zs.take k).map fun x => x % m

theorem ownM_next (m : Int) (zs : List Int) (k : Nat) (h : k < zs.length) : ownM m zs (k + 1) = ownM m zs k ++ [zs.getD k 0 % m] := by
  unfold ownM
  rw [List.take_succ_eq_append_getElem h, List.map_append]
  simp only [List.map_cons, List.map_nil, List.getD_eq_getElem?_getD, List.getElem?_eq_getElem h, Option.getD_some]
theorem ownM_length (m : Int) (zs : List Int) (k : Nat) (h : k ≤ zs.length) : (ownM m zs k).length = k := by simp [ownM]; omega
theorem ownM_range (m : Int) (hm : 0 < m) (zs : List Int) (k : Nat) : ∀ x ∈ ownM m zs k, 0 ≤ x ∧ x ≤ m - 1 := by
  intro x hx
  obtain ⟨y, _, rfl⟩ := List.mem_map.1 hx
  have h1 := Int.emod_nonneg y (show m ≠ 0 by omega)
  have h2 := Int.emod_lt_of_pos y hm
  omega

theorem src_one (w : World) (a : Int) : Src (w.alloc (.cells #[.int .i64 a] 3)) (.slice (some ⟨w.heap.size, 0, none⟩) 1 1) 1 [.int .i64 a] :=
  (reads_one w a).src (fun c h => by simp at h)

set_option maxHeartbeats 1000000 in
theorem claims_any (v : Value) (zs : List Int) (w : World) (h : Reads w v zs) :
    Calls Try.prog 17 #[v] w fun e w' => ∃ (v' : Value) (L : List Int), e = .returned v' ∧ L.length ≤ 12 ∧ (∀ x ∈ L, 0 ≤ x ∧ x ≤ 1099511627776) ∧ w'.ownsRow w.heap.size 3 1 v' L.length (L.map (Value.int .i64)) ∧ Below w.heap.size w w' := by
  obtain ⟨i0, hi, hz0, hz1, hz2⟩ := info_parts Try.info_ints
  obtain ⟨a, cap, rfl, hcap, hm, hz⟩ := id h
  obtain ⟨len, hlen⟩ : ∃ l, zs.length = l := ⟨_, rfl⟩
  have hc : Hid (∀ k, k < len → ∃ b off, a = some ⟨b, off, none⟩ ∧ w.cell? ⟨b, off + k, none⟩ = some (.int .i64 (zs.getD k 0))) := fun k hk => by
    rcases hz with rfl | ⟨b, off, rfl, hc⟩
    · simp at hlen; omega
    · exact ⟨b, off, rfl, hc k (by omega)⟩
  have HNx : Hid (∀ k, k < len → ownM 1099511627777 zs (k + 1) = ownM 1099511627777 zs k ++ [zs.getD k 0 % 1099511627777]) := fun k hk => ownM_next _ zs k (by omega)
  have HFl : Hid (∀ k, k ≤ len → (ownM 1099511627777 zs k).length = k) := fun k hk => ownM_length _ zs k (by omega)
  rw [hlen] at hm hcap ⊢
  clear h hz hlen
  unfold maxLen at hm
  go_enter Try.func17, Try.ntmps17
  go_wp2_with fail
  go_loopw [3, 4] (fun v i wr => ∃ k : Nat, k ≤ len ∧ k ≤ 12 ∧ i = .int .i64 k ∧ wr.ownsRow w.heap.size 3 1 v k ((ownM 1099511627777 zs k).map (Value.int .i64)) ∧ Below w.heap.size w wr) (fun _ i _ => len - (intOf i).toNat)
  case atStart => exact ⟨0, Nat.zero_le _, Nat.zero_le _, rfl, World.ownsRow_nil _ _ _ _, Below.refl _ _⟩
  case round =>
    obtain ⟨k, hk, hk12, rfl, hown, hbel⟩ := hrel
    have hfin := ownM_range 1099511627777 (by decide) zs k
    have hfl := HFl.out k hk
    have HF : Hid (∃ (v' : Value) (L : List Int), Ending.returned u3 = .returned v' ∧ L.length ≤ 12 ∧ (∀ x ∈ L, 0 ≤ x ∧ x ≤ 1099511627776) ∧ wr.ownsRow w.heap.size 3 1 v' L.length (L.map (Value.int .i64)) ∧ Below w.heap.size w wr) := ⟨u3, ownM 1099511627777 zs k, rfl, by omega, fun x hx => by have := hfin x hx; omega, by rw [hfl]; exact hown, hbel⟩
    clear hfin hfl
    by_cases hlt : k < len
    · by_cases h12 : k < 12
      · obtain ⟨b, off, rfl, hcell⟩ := hc.out k hlt
        have hcx : wr.cell? ⟨b, off + k, none⟩ = some (.int .i64 (zs.getD k 0)) := (hbel.cell (cell_block hcell)).trans hcell
        have hnx := HNx.out k hlt
        generalize zs.getD k 0 = x at hcx hnx
        have HN : Hid (ownM 1099511627777 zs (k + 1) = ownM 1099511627777 zs k ++ [x % 1099511627777]) := hnx
        clear hc hnx hcell HF HNx
        go_wp2_with (first
          | (go_at_call 19; refine (within_any _ _ _ (by omega) (by omega) (by omega) (by omega) _).mono ?_; rintro e w' ⟨rfl, hw'⟩; subst hw')
          | (at_builtin; refine wpList_append_src rfl (.tmp 15) (.tmp 21) 23 rfl w.heap.size 3 i0 (.int .i64 0) 1 8 Try.underlying23 hi hz0 hz1 hz2 rfl (by decide) _ _ _ rfl (hown.alloc _) _ 1 [.int .i64 (x % 1099511627777)] rfl (src_one _ _) rfl (by simp; rfl) ?c1 ?c2 ?c3 ?_))
        case c1 => unfold maxLen; omega
        case c2 => omega
        case c3 => have := hbel.size; simp; omega
        intro v' w1 hown' hgrow _
        have hb1 := below_append hbel hown hgrow
        have hown1 : w1.ownsRow w.heap.size 3 1 v' (k + 1) ((ownM 1099511627777 zs (k + 1)).map (Value.int .i64)) := by rw [HN.out, List.map_append]; exact hown'
        clear hown hown' hgrow hbel
        go_wp2
        go_roundw
        case rel => exact ⟨k + 1, by omega, by omega, by go_num, hown1, hb1⟩
        case measure => simp [intOf]; omega
      · clear hc hown hbel HNx
        go_wp2
        go_ret
        exact HF.out
    · clear hc hown hbel HNx
      go_wp2
      go_ret
      exact HF.out

end Go.Proofs.Ytmchjfiaphkpdaa
