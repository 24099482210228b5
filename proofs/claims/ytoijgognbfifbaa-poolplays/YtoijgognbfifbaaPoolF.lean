/-
  Package pool: the walks of recoversAtMost, plus, place, slices.Clone.
-/
import Derived.Test.YtoijgognbfifbaaPoolP
import Derived.Laws.OwnMore
import Derived.Lib.SliceRun
namespace Go.Proofs.Ytoijgognbfifbaa
open Go.RowKit

def LoanP.v (x : LoanP) : Value := .agg #[.int .i64 x.id, .int .i64 x.bal, .int .i64 x.lost, .int .i64 x.late, .bool x.over]
def LoanP.zero : LoanP := ⟨0, 0, 0, 0, false⟩
def AggP.f (t : AggP) : List Value := [.int .i64 t.pr, .int .i64 t.it, .int .i64 t.ls, .int .i64 t.rc]
def AggP.v (t : AggP) : Value := .agg #[.int .i64 t.pr, .int .i64 t.it, .int .i64 t.ls, .int .i64 t.rc]
/-- Its numbers are 0 to B. -/
structure AggP.Bd (B : Int) (t : AggP) : Prop where
  p0 : 0 ≤ t.pr
  p1 : t.pr ≤ B
  i0 : 0 ≤ t.it
  i1 : t.it ≤ B
  l0 : 0 ≤ t.ls
  l1 : t.ls ≤ B
  r0 : 0 ≤ t.rc
  r1 : t.rc ≤ B
/-- Does a line say nothing but what was recovered? -/
def recP (x : LineT) : Bool := decide (x.pr = 0 ∧ x.pp = 0 ∧ x.it = 0 ∧ x.lt = 0) && !x.df

theorem kindP_rec {o : LoanP} {x : LineT} (ho : o.over = true) : kindP o x = recP x := by
  unfold kindP recP
  rw [if_pos ho]
set_option maxHeartbeats 1000000 in
theorem rec_any (x : LineT) (w : World) :
    Calls Try.prog 33 #[x.v] w fun e w' => e = .returned (.bool (recP x)) ∧ Below w.heap.size w w' := by
  obtain ⟨id, pr, pp, it, rc, lt, df⟩ := x
  unfold LineT.v recP
  obtain ⟨V, hV⟩ : ∃ V, (decide (pr = 0 ∧ pp = 0 ∧ it = 0 ∧ lt = 0) && !df) = V := ⟨_, rfl⟩
  simp only [hV]
  have HV : Hid ((decide (pr = 0 ∧ pp = 0 ∧ it = 0 ∧ lt = 0) && !df) = V) := hV
  clear hV
  go_enter Try.func33, Try.ntmps33
  go_wp2
  all_goals
    go_ret
    refine ⟨ret_bool ?_, below_alloc (Below.refl _ _) _⟩
    rw [← HV.out]
    simp [*]

set_option maxHeartbeats 1000000 in
theorem aplus_any (t o : AggP) (B C : Int) (ht : t.Bd B) (ho : o.Bd C) (hB : B + C ≤ 9223372036854775807) (w : World) :
    Calls Try.prog 27 #[t.v, o.v] w fun e w' => e = .returned (t.plus o).v ∧ Below w.heap.size w w' := by
  obtain ⟨a0, a1, a2, a3⟩ := t
  obtain ⟨b0, b1, b2, b3⟩ := o
  obtain ⟨t1, t2, t3, t4, t5, t6, t7, t8⟩ := ht
  obtain ⟨s1, s2, s3, s4, s5, s6, s7, s8⟩ := ho
  simp only at t1 t2 t3 t4 t5 t6 t7 t8 s1 s2 s3 s4 s5 s6 s7 s8
  unfold AggP.v AggP.plus
  go_enter Try.func27, Try.ntmps27
  go_wp2
  refine bodyPost_ret (v := .agg #[.int .i64 (a0 + b0), .int .i64 (a1 + b1), .int .i64 (a2 + b2), .int .i64 (a3 + b3)]) (by simp [results, Try.results27, go_sem]) rfl ⟨rfl, ?_⟩
  exact below_alloc (below_alloc (below_alloc (Below.refl _ _) _) _) _

/-- One loan of a slice, as it lies there. -/
theorem Lies.loan {w : World} {a : Option Addr} {n cap : Nat} {xs : List LoanP} (h : Lies 5 LoanP.f w (.slice a n cap) xs) (k : Nat) (hk : k < n) :
    ∃ b off x, a = some ⟨b, off, none⟩ ∧ xs[k]? = some x ∧ x ∈ xs ∧ w.cell? ⟨b, off + k * 5, none⟩ = some (.int .i64 x.id) ∧ w.cell? ⟨b, off + k * 5 + 1, none⟩ = some (.int .i64 x.bal) ∧ w.cell? ⟨b, off + k * 5 + 2, none⟩ = some (.int .i64 x.lost) ∧ w.cell? ⟨b, off + k * 5 + 3, none⟩ = some (.int .i64 x.late) ∧ w.cell? ⟨b, off + k * 5 + 4, none⟩ = some (.bool x.over) := by
  obtain ⟨b, off, rfl, hc⟩ := h.place (by omega)
  have hl := h.len
  have hx : xs[k]? = some (xs[k]'(by omega)) := List.getElem?_eq_getElem (by omega)
  have c := hc k _ hx
  have c0 := c 0 _ rfl
  rw [Nat.add_zero] at c0
  exact ⟨b, off, _, rfl, hx, List.getElem_mem _, c0, c 1 _ rfl, c 2 _ rfl, c 3 _ rfl, c 4 _ rfl⟩

/-- What place tells. -/
def placeV : Option Nat → Value
  | some i => .tuple #[.int .i64 i, .bool true]
  | none => .tuple #[.int .i64 0, .bool false]
set_option maxHeartbeats 2000000 in
theorem place_any (v : Value) (p : List LoanP) (id : Int) (w : World) (h : Lies 5 LoanP.f w v p) :
    Calls Try.prog 25 #[v, .int .i64 id] w fun e w' => e = .returned (placeV (atP id p)) ∧ Below w.heap.size w w' := by
  obtain ⟨V, hV⟩ : ∃ V, placeV (atP id p) = V := ⟨_, rfl⟩
  rw [hV]
  have HL := h
  obtain ⟨a, cap, rfl, _, hcm, _, _⟩ := h
  obtain ⟨n, hn⟩ : ∃ n, p.length = n := ⟨_, rfl⟩
  have hlen := HL.len
  rw [hn] at HL hlen ⊢
  unfold maxLen at hlen
  have hm : n ≤ 9223372036854775807 := by omega
  have H2 : Hid (Lies 5 LoanP.f w (.slice a n cap) p) := HL
  have HN : Hid (p.length = n) := hn
  have HV : Hid (placeV (atP id p) = V) := hV
  clear HL hcm hlen hn hV
  go_enter Try.func25, Try.ntmps25
  go_wp2
  go_loopw [10] (fun i wr => ∃ (k : Nat), k ≤ n ∧ i = .int .i64 k ∧ (∀ j o, j < k → p[j]? = some o → o.id ≠ id) ∧ Below w.heap.size w wr) (fun i _ => n - (intOf i).toNat)
  case atStart => exact ⟨0, Nat.zero_le _, rfl, fun j o h => absurd h (Nat.not_lt_zero _), Below.refl _ _⟩
  case round =>
  obtain ⟨k, hk, rfl, hA, hB⟩ := hrel
  have HA : Hid (∀ j o, j < k → p[j]? = some o → o.id ≠ id) := hA
  clear hA
  by_cases hlt : k < n
  · obtain ⟨b, off, x, rfl, hx, hmem, c0, c1, c2, c3, c4⟩ := H2.out.loan k hlt
    replace c0 := cell_keep hB c0
    replace c1 := cell_keep hB c1
    replace c2 := cell_keep hB c2
    replace c3 := cell_keep hB c3
    replace c4 := cell_keep hB c4
    have HX : Hid (p[k]? = some x) := hx
    clear hx hmem
    by_cases g : x.id = id
    · have e : V = .tuple #[.int .i64 k, .bool true] := by rw [← HV.out, atP_first HX.out g HA.out]; rfl
      subst e
      go_wp2
      go_ret2
      exact ⟨rfl, below_alloc hB _⟩
    · go_wp2
      go_roundw
      case rel => exact ⟨k + 1, by omega, by go_num, fun j o hj ho => by
        rcases Nat.lt_or_ge j k with h | h
        · exact HA.out j o h ho
        · obtain rfl : j = k := by omega
          rw [HX.out] at ho
          injection ho with ho
          subst ho
          exact g, below_alloc hB _⟩
      case measure => simp [intOf]; omega
  · obtain rfl : k = n := by omega
    have e : V = .tuple #[.int .i64 0, .bool false] := by
      rw [← HV.out, atP_no (fun o ho => by
        obtain ⟨j, hj⟩ := List.getElem?_of_mem ho
        exact HA.out j o (by rw [← HN.out]; exact (List.getElem?_eq_some_iff.1 hj).1) hj)]
      rfl
    subst e
    go_wp2
    go_ret2
    exact ⟨rfl, hB⟩

theorem Try.info_loan : (Try.prog.info? 58).map (fun i => (i.zero, i.size, i.bytes)) = some (some (.agg #[.int .i64 0, .int .i64 0, .int .i64 0, .int .i64 0, .bool false]), 5, 40) := by kernel_rfl
set_option maxHeartbeats 2000000 in
theorem clone_any (v : Value) (p : List LoanP) (w : World) (h : Lies 5 LoanP.f w v p) (hl : p.length ≤ 1000) :
    Calls Try.prog 24 #[v] w fun e w' => ∃ v', e = .returned v' ∧ w'.ownsRow w.heap.size 58 5 v' p.length (p.flatMap LoanP.f) ∧ Below w.heap.size w w' := by
  obtain ⟨i0, hi, hz0, hz1, hz2⟩ := info_parts Try.info_loan
  have HL := h
  obtain ⟨a, cap, rfl, _, hcm, hz, _⟩ := h
  obtain ⟨n, hn⟩ : ∃ n, p.length = n := ⟨_, rfl⟩
  have hlen := HL.len
  rw [hn] at HL hlen hl ⊢
  unfold maxLen at hlen
  have hm : n ≤ 9223372036854775807 := by omega
  have H2 : Hid (Lies 5 LoanP.f w (.slice a n cap) p) := HL
  have HN : Hid (p.length = n) := hn
  clear HL hcm hn
  have qS : ∀ (w : World) (a : Option Addr) (n c : Nat), (binOp .eql 55 (.slice a n c) (.slice none 0 0)).run Try.prog w = .ok (.bool a.isNone) w := fun w a n c => Lib.run_eql_slice_nil w _ _ a n c 0 0 Try.underlying55
  cases a with
  | none =>
    obtain rfl := hz rfl
    obtain rfl : n = 0 := by omega
    have e : p = [] := List.eq_nil_of_length_eq_zero HN.out
    subst e
    clear hz hlen
    go_enter Try.func24, Try.ntmps24
    go_wp2
    go_ret
    exact ⟨_, rfl, World.ownsRow_nil _ _ _ _, Below.refl _ _⟩
  | some a =>
    have OW : Hid ((w.alloc (.cells #[] 58)).ownsRow w.heap.size 58 5 (.slice (some ⟨w.heap.size, 0, none⟩) 0 0) 0 []) := World.ownsRow_lit w #[] 0 (Nat.le_refl _) (Nat.zero_le _) rfl
    have SR : Hid (Src (w.alloc (.cells #[] 58)) (.slice (some a) n cap) n (p.flatMap LoanP.f)) := by
      have := (H2.out.below (below_alloc (Below.refl _ _) (.cells #[] 58))).src LoanP.len (by omega)
      rw [HN.out] at this
      exact this
    have FL : Hid ((p.flatMap LoanP.f).length = n * 5) := by
      show _ = _
      rw [flat_length LoanP.len, HN.out]
    have BS : Hid (w.heap.size ≤ (w.alloc (.cells #[] 58)).heap.size) := by
      show _ ≤ _
      simp
    go_enter Try.func24, Try.ntmps24
    go_wp2_with (refine wpList_append_src rfl (.tmp 5) (.tmp 6) 55 rfl w.heap.size 58 i0 (.agg #[.int .i64 0, .int .i64 0, .int .i64 0, .int .i64 0, .bool false]) 5 40 Try.underlying55 hi hz0 hz1 hz2 rfl (by decide) (.slice (some ⟨w.heap.size, 0, none⟩) 0 0) 0 [] rfl OW.out (.slice (some a) n cap) n (p.flatMap LoanP.f) rfl SR.out FL.out (flat_one LoanP.one) (by unfold maxLen; omega) (by omega) BS.out ?_; intro v' w2 ow gr ob)
    go_ret
    rw [Nat.zero_add, List.nil_append] at ow
    exact ⟨_, rfl, ow, below_grown (below_alloc (Below.refl _ _) _) gr (fun k hk => (OW.out.lt k hk).1)⟩
end Go.Proofs.Ytoijgognbfifbaa
