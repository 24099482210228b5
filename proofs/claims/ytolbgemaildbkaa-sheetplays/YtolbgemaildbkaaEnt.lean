/-
  Package sheet: entries, and the walk of Net.
-/
import Derived.Test.YtolbgemaildbkaaWide
import Derived.Test.YtolbgemaildbkaaBlk
import Derived.Test.YtolbgemaildbkaaShapeLies
namespace Go.Proofs.Ytolbgemaildbkaa
open Go.RowKit

/-- An entry. -/
structure Ent where
  acc : Int
  amt : Int
def Ent.f (x : Ent) : List Value := [.int .i64 x.acc, .int .i64 x.amt]
theorem Ent.len (x : Ent) : x.f.length = 2 := rfl
theorem Ent.one (x : Ent) : ∀ u ∈ x.f, u.oneCell' = true := by
  intro u hu
  simp only [Ent.f, List.mem_cons, List.not_mem_nil, or_false] at hu
  rcases hu with rfl | rfl <;> rfl
/-- All amounts together. -/
def sumA (es : List Ent) : Int := (es.map Ent.amt).sum
theorem sumA_nil : sumA [] = 0 := rfl
theorem sumA_cons (e : Ent) (es : List Ent) : sumA (e :: es) = e.amt + sumA es := by simp [sumA]
theorem sumA_append (es fs : List Ent) : sumA (es ++ fs) = sumA es + sumA fs := by simp [sumA]
theorem sumA_next (es : List Ent) (k : Nat) (e : Ent) (h : es[k]? = some e) : sumA (es.take (k + 1)) = sumA (es.take k) + e.amt := by
  obtain ⟨hk, rfl⟩ := List.getElem?_eq_some_iff.1 h
  rw [List.take_succ_eq_append_getElem hk, sumA_append]
  simp [sumA]
def allAmt (es : List Ent) : Bool := es.all fun e => amtOk e.amt
theorem allAmt_next (es : List Ent) (k : Nat) (e : Ent) (h : es[k]? = some e) : allAmt (es.take (k + 1)) = (allAmt (es.take k) && amtOk e.amt) := by
  obtain ⟨hk, rfl⟩ := List.getElem?_eq_some_iff.1 h
  unfold allAmt
  rw [List.take_succ_eq_append_getElem hk, List.all_append]
  simp
theorem allAmt_false (es : List Ent) (e : Ent) (h : e ∈ es) (hb : amtOk e.amt = false) : allAmt es = false := by
  unfold allAmt
  rw [List.all_eq_false]
  exact ⟨e, h, by simp [hb]⟩
theorem sumA_bd : ∀ es : List Ent, allAmt es = true → -(es.length * 1152921504606846976 : Int) ≤ sumA es ∧ sumA es ≤ es.length * 1152921504606846976
  | [], _ => by simp [sumA]
  | e :: r, h => by
    simp only [allAmt, List.all_cons, Bool.and_eq_true] at h
    have h1 := (amtOk_iff _).1 h.1
    have h2 := sumA_bd r h.2
    rw [sumA_cons, List.length_cons, Int.natCast_add, Int.add_mul]
    simp
    omega
/-- What Net tells. -/
def netB (es : List Ent) : Bool := decide (es.length ≤ 64) && allAmt es && isInt (sumA es)
def netV (es : List Ent) : Int := if netB es then sumA es else 0

set_option maxHeartbeats 2000000 in
theorem net_any (v : Value) (es : List Ent) (w : World) (h : Lies 2 Ent.f w v es) (hI : ∀ e ∈ es, I64 e.amt) :
    Calls Try.prog 18 #[v] w fun e w' => e = .returned (.tuple #[.int .i64 (netV es), .bool (netB es)]) ∧ Below w.heap.size w w' := by
  obtain ⟨V, hV⟩ : ∃ V, netV es = V := ⟨_, rfl⟩
  obtain ⟨B, hB⟩ : ∃ B, netB es = B := ⟨_, rfl⟩
  rw [hV, hB]
  have HV : Hid (netV es = V ∧ netB es = B) := ⟨hV, hB⟩
  clear hV hB
  have HL := h
  obtain ⟨a, cap, rfl, _, hcm, _, _⟩ := h
  obtain ⟨n, hn⟩ : ∃ n, es.length = n := ⟨_, rfl⟩
  have hl := HL.len
  unfold maxLen at hl
  rw [hn] at HL hl ⊢
  have H2 : Hid (Lies 2 Ent.f w (.slice a n cap) es) := HL
  have H3 : Hid (∀ e ∈ es, I64 e.amt) := hI
  have H4 : Hid (es.take n = es) := by show _ = _; rw [← hn]; exact List.take_length
  have HN : Hid (es.length = n) := hn
  have hn0 : n ≤ 9223372036854775807 := by omega
  clear HL hI hcm hl
  by_cases h64 : n ≤ 64
  · go_enter Try.func18, Try.ntmps18
    go_upto_region 4 with fail
    refine wp_letter (fun wx => Below w.heap.size w wx ∧ ∃ g, w.heap.size = g ∧ Blk wx g 54 (wideC (sumA []))) ⟨below_alloc (Below.refl _ _) _, _, rfl, Blk.fresh _ _ _⟩ ?_
    rintro W ⟨hW, g, hg, hK⟩
    rw [hg]
    go_wp2
    go_loopw [12] (fun i wr => ∃ (k : Nat) (S : Int), k ≤ n ∧ i = .int .i64 k ∧ sumA (es.take k) = S ∧ allAmt (es.take k) = true ∧ Below w.heap.size w wr ∧ Blk wr g 54 (wideC S)) (fun i _ => n - (intOf i).toNat)
    case atStart => exact ⟨0, 0, Nat.zero_le _, rfl, rfl, rfl, hW, hK⟩
    case round =>
    obtain ⟨k, S, hk, rfl, eS, hA, hB, hb⟩ := hrel
    by_cases hlt : k < n
    · obtain ⟨b, off, rfl, hc⟩ := H2.out.place (by omega)
      have hx : es[k]? = some (es[k]'(by omega)) := List.getElem?_eq_getElem (by omega)
      obtain ⟨x, hx'⟩ : ∃ x, es[k]'(by omega) = x := ⟨_, rfl⟩
      have hmem : x ∈ es := by rw [← hx']; exact List.getElem_mem _
      rw [hx'] at hx
      clear hx'
      have c := hc k x hx
      have c0 := c 0 _ rfl; have c1 := c 1 _ rfl
      rw [Nat.add_zero] at c0
      replace c0 := cell_keep hB c0
      replace c1 := cell_keep hB c1
      have n1 := sumA_next es k x hx
      have n2 := allAmt_next es k x hx
      rw [eS] at n1
      rw [hA] at n2
      have N1 : Hid (sumA (es.take (k + 1)) = S + x.amt) := n1
      have N2 : Hid (allAmt (es.take (k + 1)) = (true && amtOk x.amt)) := n2
      obtain ⟨i0, i1⟩ := H3.out x hmem
      have HM : Hid (x ∈ es) := hmem
      clear n1 n2 hc c eS hA hmem hx
      obtain ⟨ac, am⟩ := x
      simp only at c0 c1 i0 i1
      go_upto_region 7 with fail
      refine wp_letter (fun wx => Below w.heap.size w wx ∧ Blk wx g 54 (wideC S) ∧ ∃ Q, wr.heap.size = Q ∧ wx.cell? ⟨Q, 1, none⟩ = some (.int .i64 am)) ⟨below_alloc hB _, hb.alloc _, _, rfl, by simp [go_sem]⟩ ?_
      clear hB hb c0 c1
      rintro X ⟨hX, hb, Q, eQ, cQ⟩
      rw [eQ]
      clear eQ
      cases hok : amtOk am with
      | false =>
        have HF : Hid (amtOk am = false) := hok
        clear hok
        go_wp2_with (go_at_call 24; refine (bounded_any _ _).mono ?_; rintro e wq ⟨rfl, hq⟩; have hq := hq.symm; subst hq; rw [HF.out])
        go_ret2
        have e1 : netB es = false := by unfold netB; rw [allAmt_false es _ HM.out HF.out]; simp
        have e2 := HV.out
        rw [netV, e1, if_neg (by simp)] at e2
        rw [← e2.1, ← e2.2]
        exact ⟨rfl, hX⟩
      | true =>
        have HF : Hid (amtOk am = true) := hok
        clear hok
        have y0 := hb.cell 0 _ rfl
        have y1 := hb.cell 1 _ rfl
        go_wp2_with (first
          | (go_at_call 24; refine (bounded_any _ _).mono ?_; rintro e wq ⟨rfl, hq⟩; have hq := hq.symm; subst hq; rw [HF.out])
          | (go_at_call 21; refine (plus_any S am i0 i1 _).mono ?_; rintro e wn ⟨rfl, bn⟩; have hn' := hb.then bn; have z0 := hn'.cell 0 _ rfl; have z1 := hn'.cell 1 _ rfl; have f0 := hn'.frozen 0; have f1 := hn'.frozen 1))
        go_roundw
        case rel => exact ⟨k + 1, S + am, by omega, by go_num, N1.out, by rw [N2.out]; simp [HF.out], ((below_then hX bn).setCell (Nat.le_of_eq hg) _).setCell (Nat.le_of_eq hg) _, (hn'.set 0 _).set 1 _⟩
        case measure => simp [intOf]; omega
    · obtain rfl : k = n := by omega
      rw [H4.out] at eS hA
      have hbd := sumA_bd es hA
      rw [HN.out, eS] at hbd
      have y0 := hb.cell 0 _ rfl
      have y1 := hb.cell 1 _ rfl
      have e1 : netB es = isInt S := by unfold netB; rw [hA, eS, HN.out]; simp [h64]
      have e2 : netV es = numV S := by unfold netV numV; rw [e1, eS]
      have HE : Hid (numV S = V ∧ isInt S = B) := ⟨e2.symm.trans HV.out.1, e1.symm.trans HV.out.2⟩
      clear e1 e2 hA eS H2 H3 H4 hb
      go_wp2_with (go_at_call 23; refine (number_any S (by omega) (by omega) _).mono ?_; rintro e wn ⟨rfl, bn⟩; rw [HE.out.1, HE.out.2])
      go_ret2
      exact ⟨rfl, below_then hB bn⟩
  · have h64' : 64 < n := by omega
    go_enter Try.func18, Try.ntmps18
    go_wp2
    go_ret2
    have e1 : netB es = false := by unfold netB; rw [HN.out, decide_eq_false (by omega)]; simp
    have e2 := HV.out
    rw [netV, e1, if_neg (by simp)] at e2
    rw [← e2.1, ← e2.2]
    exact ⟨rfl, Below.refl _ _⟩
end Go.Proofs.Ytolbgemaildbkaa
