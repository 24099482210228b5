/-
  Package tape: the walks of within, rightNumbers and Right.
-/
import Derived.Test.YtoijgognbfifbaaTapeSum
namespace Go.Proofs.Ytoijgognbfifbaa
open Go.RowKit

/-- Is n 0 to m? -/
def inTo (m n : Int) : Bool := decide (0 ≤ n) && decide (n ≤ m)
def inAll (m : Int) (zs : List Int) : Bool := zs.all (inTo m)
theorem inTo_iff {m n : Int} : inTo m n = true ↔ 0 ≤ n ∧ n ≤ m := by simp [inTo]
theorem inTo_no {m n : Int} (h : n < 0 ∨ m < n) : inTo m n = false := by
  simp only [inTo, Bool.and_eq_false_iff, decide_eq_false_iff_not]
  omega
theorem inAll_next (m : Int) (zs : List Int) (k : Nat) (hk : k < zs.length) : inAll m (zs.take (k + 1)) = (inAll m (zs.take k) && inTo m (zs.getD k 0)) := by
  unfold inAll
  rw [List.take_succ_eq_append_getElem hk, List.all_append]
  simp [hk]
theorem inAll_false {m : Int} {zs : List Int} {k : Nat} (hk : k < zs.length) (h : inTo m (zs.getD k 0) = false) : inAll m zs = false := by
  unfold inAll
  rw [List.all_eq_false]
  exact ⟨zs[k], List.getElem_mem hk, by simpa [hk] using h⟩

set_option maxHeartbeats 1000000 in
theorem twithin_any (m : Int) (v : Value) (zs : List Int) (w : World) (h : Reads w v zs) :
    Calls Try.prog 34 #[.int .i64 m, v] w fun e w' => e = .returned (.bool (inAll m zs)) ∧ w' = w := by
  obtain ⟨V, hV⟩ : ∃ V, inAll m zs = V := ⟨_, rfl⟩
  rw [hV]
  have HV : Hid (inAll m zs = V) := hV
  clear hV
  obtain ⟨a, cap, rfl, h1, h2, hz⟩ := h
  obtain ⟨n, hn⟩ : ∃ n, zs.length = n := ⟨_, rfl⟩
  have HN : Hid (zs.length = n) := hn
  have HZ : Hid (zs = [] ∨ ∃ b off, a = some ⟨b, off, none⟩ ∧ ∀ i, i < zs.length → w.cell? ⟨b, off + i, none⟩ = some (.int .i64 (zs.getD i 0))) := hz
  rw [hn]
  have hm : n ≤ 9223372036854775807 := by unfold maxLen at *; omega
  clear hz h1 h2 hn
  go_enter Try.func34, Try.ntmps34
  go_wp2
  go_loopw [9] (fun i wr => ∃ (k : Nat), k ≤ n ∧ i = .int .i64 k ∧ inAll m (zs.take k) = true ∧ wr = w) (fun i _ => n - (intOf i).toNat)
  case atStart => exact ⟨0, Nat.zero_le _, rfl, rfl, rfl⟩
  case round =>
  obtain ⟨k, hk, rfl, hA, rfl⟩ := hrel
  by_cases hlt : k < n
  · have hkz : k < zs.length := by rw [HN.out]; exact hlt
    rcases HZ.out with rfl | ⟨b, off, rfl, hc⟩
    · simp at hkz
    have c := hc k hkz
    have N1 := inAll_next m zs k hkz
    rw [hA] at N1
    have N2 : inTo m (zs.getD k 0) = false → V = false := fun g => by rw [← HV.out]; exact inAll_false hkz g
    generalize zs.getD k 0 = z at c N1 N2
    have H1 : Hid (inAll m (zs.take (k + 1)) = (true && inTo m z)) := N1
    have H2 : Hid (inTo m z = false → V = false) := N2
    clear N1 N2 hc hA
    by_cases g0 : z < 0
    · have hVf := H2.out (inTo_no (Or.inl g0))
      subst hVf
      go_wp2
      go_ret
      exact ⟨rfl, rfl⟩
    · by_cases g1 : m < z
      · have hVf := H2.out (inTo_no (Or.inr g1))
        subst hVf
        go_wp2
        go_ret
        exact ⟨rfl, rfl⟩
      · go_wp2
        go_roundw
        case rel => exact ⟨k + 1, by omega, by go_num, by rw [H1.out, inTo_iff.2 ⟨by omega, by omega⟩]; rfl, by first | rfl | trivial⟩
        case measure => simp [intOf]; omega
  · obtain rfl : k = n := by omega
    have e : zs.take k = zs := by rw [← HN.out]; exact List.take_length
    rw [e, HV.out] at hA
    subst hA
    clear HZ e
    go_wp2
    go_ret
    exact ⟨rfl, rfl⟩

/-- May a line's numbers be? -/
def LineT.ok (x : LineT) : Bool := inAll 1099511627776 [x.pr, x.pp, x.it, x.rc] && inAll 12 [x.lt]
theorem LineT.ok_iff (x : LineT) : x.ok = true ↔ x.Am ∧ 0 ≤ x.lt ∧ x.lt ≤ 12 := by
  simp only [LineT.ok, inAll, List.all_cons, List.all_nil, Bool.and_true, Bool.and_eq_true, inTo_iff]
  constructor
  · rintro ⟨⟨⟨h1, h2⟩, ⟨h3, h4⟩, ⟨h5, h6⟩, h7, h8⟩, h9, h10⟩
    exact ⟨⟨h1, h2, h3, h4, h5, h6, h7, h8⟩, h9, h10⟩
  · rintro ⟨⟨h1, h2, h3, h4, h5, h6, h7, h8⟩, h9, h10⟩
    exact ⟨⟨⟨h1, h2⟩, ⟨h3, h4⟩, ⟨h5, h6⟩, h7, h8⟩, h9, h10⟩
theorem reads_four {w : World} {g : Nat} {a b c d : Int} (h0 : w.cell? ⟨g, 0, none⟩ = some (.int .i64 a)) (h1 : w.cell? ⟨g, 1, none⟩ = some (.int .i64 b)) (h2 : w.cell? ⟨g, 2, none⟩ = some (.int .i64 c)) (h3 : w.cell? ⟨g, 3, none⟩ = some (.int .i64 d)) : Reads w (.slice (some ⟨g, 0, none⟩) 4 4) [a, b, c, d] :=
  ⟨_, 4, rfl, by simp, by simp [maxLen], Or.inr ⟨g, 0, rfl, fun k hk => by
    match k, hk with
    | 0, _ => simpa using h0
    | 1, _ => simpa using h1
    | 2, _ => simpa using h2
    | 3, _ => simpa using h3⟩⟩
theorem reads_one {w : World} {g : Nat} {a : Int} (h0 : w.cell? ⟨g, 0, none⟩ = some (.int .i64 a)) : Reads w (.slice (some ⟨g, 0, none⟩) 1 1) [a] :=
  ⟨_, 1, rfl, by simp, by simp [maxLen], Or.inr ⟨g, 0, rfl, fun k hk => by
    match k, hk with
    | 0, _ => simpa using h0⟩⟩

set_option maxHeartbeats 1000000 in
theorem rightNumbers_any (x : LineT) (w : World) :
    Calls Try.prog 32 #[x.v] w fun e w' => e = .returned (.bool x.ok) ∧ Below w.heap.size w w' := by
  unfold LineT.v
  cases y1 : inAll 1099511627776 [x.pr, x.pp, x.it, x.rc] with
  | false =>
    have e : x.ok = false := by unfold LineT.ok; rw [y1]; rfl
    rw [e]
    have Y1 : Hid (inAll 1099511627776 [x.pr, x.pp, x.it, x.rc] = false) := y1
    clear y1 e
    go_enter Try.func32, Try.ntmps32
    go_wp2_with (go_at_call 34; have _y := Y1; refine (twithin_any _ _ [x.pr, x.pp, x.it, x.rc] _ (reads_four (by simp [go_sem]) (by simp [go_sem]) (by simp [go_sem]) (by simp [go_sem]))).mono ?_; rintro e wq ⟨rfl, hq⟩; have hq := hq.symm; subst hq; rw [Y1.out]; clear _y Y1)
    go_ret
    exact ⟨rfl, below_alloc (below_alloc (Below.refl _ _) _) _⟩
  | true =>
    have Y1 : Hid (inAll 1099511627776 [x.pr, x.pp, x.it, x.rc] = true) := y1
    obtain ⟨B, hB⟩ : ∃ B, inAll 12 [x.lt] = B := ⟨_, rfl⟩
    have e : x.ok = B := by unfold LineT.ok; rw [y1, hB]; rfl
    rw [e]
    have Y2 : Hid (inAll 12 [x.lt] = B) := hB
    clear y1 e hB
    go_enter Try.func32, Try.ntmps32
    go_wp2_with (first | (go_at_call 34; have _y := Y1; refine (twithin_any _ _ [x.pr, x.pp, x.it, x.rc] _ (reads_four (by simp [go_sem]) (by simp [go_sem]) (by simp [go_sem]) (by simp [go_sem]))).mono ?_; rintro e wq ⟨rfl, hq⟩; have hq := hq.symm; subst hq; rw [Y1.out]; clear _y Y1) | (go_at_call 34; refine (twithin_any _ _ [x.lt] _ (reads_one (by simp [go_sem]))).mono ?_; rintro e wq ⟨rfl, hq⟩; have hq := hq.symm; subst hq; rw [Y2.out]))
    go_ret
    exact ⟨rfl, below_alloc (below_alloc (below_alloc (Below.refl _ _) _) _) _⟩

/-- Are lines right, behind one whose Id is a? -/
def rightFrom : Int → List LineT → Bool
  | _, [] => true
  | a, x :: r => decide (a < x.id) && x.ok && rightFrom x.id r
/-- What Right tells. -/
def rightT (xs : List LineT) : Bool := decide (xs.length ≤ 64) && rightFrom 0 xs

set_option maxHeartbeats 2000000 in
theorem tright_any (v : Value) (xs : List LineT) (w : World) (h : Lies 7 LineT.f w v xs) :
    Calls Try.prog 23 #[v] w fun e w' => e = .returned (.bool (rightT xs)) ∧ Below w.heap.size w w' := by
  obtain ⟨V, hV⟩ : ∃ V, rightT xs = V := ⟨_, rfl⟩
  rw [hV]
  have HL := h
  obtain ⟨a, cap, rfl, _, hcm, _, _⟩ := h
  obtain ⟨n, hn⟩ : ∃ n, xs.length = n := ⟨_, rfl⟩
  have hlen := HL.len
  rw [hn] at HL hlen ⊢
  unfold maxLen at hlen
  have hm : n ≤ 9223372036854775807 := by omega
  have H2 : Hid (Lies 7 LineT.f w (.slice a n cap) xs) := HL
  have HN : Hid (xs.length = n) := hn
  unfold rightT at hV
  rw [hn] at hV
  by_cases h64 : n ≤ 64
  · rw [decide_eq_true h64, Bool.true_and] at hV
    have HV : Hid (rightFrom 0 xs = V) := hV
    clear HL hcm hlen hn hV
    go_enter Try.func23, Try.ntmps23
    go_wp2
    go_loopw [3, 11] (fun u i wr => ∃ (k : Nat) (A : Int), k ≤ n ∧ i = .int .i64 k ∧ u = .int .i64 A ∧ rightFrom A (xs.drop k) = V ∧ Below w.heap.size w wr) (fun _ i _ => n - (intOf i).toNat)
    case atStart => exact ⟨0, 0, Nat.zero_le _, rfl, rfl, HV.out, Below.refl _ _⟩
    case round =>
    obtain ⟨k, A, hk, rfl, rfl, hA, hB⟩ := hrel
    by_cases hlt : k < n
    · obtain ⟨b, off, x, rfl, hx, hmem, c0, c1, c2, c3, c4, c5, c6⟩ := H2.out.line k hlt
      replace c0 := cell_keep hB c0
      replace c1 := cell_keep hB c1
      replace c2 := cell_keep hB c2
      replace c3 := cell_keep hB c3
      replace c4 := cell_keep hB c4
      replace c5 := cell_keep hB c5
      replace c6 := cell_keep hB c6
      have hd : xs.drop k = x :: xs.drop (k + 1) := by
        obtain ⟨h1, rfl⟩ := List.getElem?_eq_some_iff.1 hx
        exact List.drop_eq_getElem_cons h1
      rw [hd, rightFrom] at hA
      have HA : Hid ((decide (A < x.id) && x.ok && rightFrom x.id (xs.drop (k + 1))) = V) := hA
      clear hA hd hx hmem
      go_upto_region 7 with fail
      refine wp_letter (fun wx => Below w.heap.size w wx ∧ ∃ Q, wr.heap.size = Q ∧ Blk wx Q 32 x.f) ⟨below_alloc hB _, _, rfl, Blk.fresh _ _ _⟩ ?_
      clear hB c0 c1 c2 c3 c4 c5 c6
      rintro X ⟨hX, Q, eQ, b3⟩
      rw [eQ]
      clear eQ
      have x0 := b3.cell 0 _ rfl; have x1 := b3.cell 1 _ rfl; have x2 := b3.cell 2 _ rfl; have x3 := b3.cell 3 _ rfl; have x4 := b3.cell 4 _ rfl; have x5 := b3.cell 5 _ rfl; have x6 := b3.cell 6 _ rfl
      by_cases hi : A < x.id
      · have hi' : ¬ x.id ≤ A := by omega
        cases hok : x.ok with
        | false =>
          have e := HA.out
          rw [hok] at e
          simp at e
          subst e
          have HO : Hid (x.ok = false) := hok
          clear hok
          go_wp2_with (go_at_call 32; refine (rightNumbers_any x _).mono ?_; rintro e w1 ⟨rfl, d1⟩; rw [HO.out])
          go_ret
          exact ⟨rfl, below_then hX d1⟩
        | true =>
          have e := HA.out
          rw [hok, decide_eq_true hi, Bool.true_and, Bool.true_and] at e
          have HE : Hid (rightFrom x.id (xs.drop (k + 1)) = V) := e
          have HO : Hid (x.ok = true) := hok
          clear hok e
          go_wp2_with (go_at_call 32; refine (rightNumbers_any x _).mono ?_; rintro e w1 ⟨rfl, d1⟩; rw [HO.out]; replace x0 := cell_keep d1 x0)
          go_roundw
          case rel => exact ⟨k + 1, x.id, by omega, by go_num, rfl, HE.out, below_then hX d1⟩
          case measure => simp [intOf]; omega
      · have hi' : x.id ≤ A := by omega
        have e := HA.out
        rw [decide_eq_false hi, Bool.false_and, Bool.false_and] at e
        subst e
        go_wp2
        go_ret
        exact ⟨rfl, hX⟩
    · obtain rfl : k = n := by omega
      rw [List.drop_eq_nil_of_le (by rw [HN.out]; exact Nat.le_refl _), rightFrom] at hA
      subst hA
      clear H2
      go_wp2
      go_ret
      exact ⟨rfl, hB⟩
  · rw [decide_eq_false h64, Bool.false_and] at hV
    subst hV
    have h65 : 64 < n := by omega
    clear HL hcm hlen hn H2 HN
    go_enter Try.func23, Try.ntmps23
    go_wp2
    go_ret
    exact ⟨rfl, Below.refl _ _⟩
end Go.Proofs.Ytoijgognbfifbaa
