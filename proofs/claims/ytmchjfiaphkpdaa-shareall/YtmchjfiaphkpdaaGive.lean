/-
  Package share: the sort of the cuts by byLost, and the walk of giveLeft.
-/
import Derived.Test.YtmchjfiaphkpdaaCutSort
import Derived.Test.YtmchjfiaphkpdaaLost
import Derived.Test.YtmchjfiaphkpdaaProP
import Derived.Test.YtmchjfiaphkpdaaBookMem
namespace Go.Proofs.Ytmchjfiaphkpdaa
open Go.RowKit Go.Shelf Go.Lib Go.Sort

/-- A cut's cells. -/
def encC (x : Int × Int) : List Value := [.int .i64 x.1, .int .i64 x.2]

theorem lt_lost : ltOf lostI = aheadB := by
  funext x y
  unfold ltOf
  rw [Bool.eq_iff_iff, decide_eq_true_eq, aheadB_iff]
  unfold lostI orI cmpI
  repeat' split
  all_goals omega

theorem swo_ahead : SWO aheadB := ⟨ahead_irr, ahead_trans, fun x y z h k => by rw [aheadB_no] at *; omega⟩

/-- What a sort of block g leaves: the rest. -/
structure Rest (g : Nat) (w w' : World) : Prop where
  os : w'.os = w.os
  tape : w'.tape = w.tape
  output : w'.output = w.output
  size : w.heap.size ≤ w'.heap.size
  block : ∀ k, k < w.heap.size → k ≠ g → w'.heap[k]? = w.heap[k]?

theorem cutSort_any (gc l : Nat) (ls : List Int) (w : World) (hl : ls.length = l) (hb : l ≤ 1000000) (hH : HoldsK encC 2 w gc 0 (cutsOf ls).toArray) (hg : gc < w.heap.size) :
    Calls Try.prog 31 #[.slice (some ⟨gc, 0, none⟩) l l, .func (.func 32) #[] #[]] w fun e w' => e = .returned (.tuple #[]) ∧
      ∃ L, InOrd ls L ∧ HoldsK encC 2 w' gc 0 L.toArray ∧ Rest gc w w' := by
  have hs : (cutsOf ls).toArray.size = l := by simp [cutsOf_length, hl]
  have h := AnyQ.slices_SortFunc_total cutSort 2 Try.isAgg40 Try.sizeOf40 encC (fun _ => rfl) (fun x v hv => by
      simp only [encC, List.mem_cons, List.not_mem_nil, or_false] at hv
      rcases hv with rfl | rfl <;> rfl) lostI (by rw [lt_lost]; exact swo_ahead) 32 #[] gc 0 l (cutsOf ls).toArray w (enters_of Try.func32 (by kernel_rfl) rfl)
    (fun m os dk _ x y => byLost_any x y _) hH hg (by rw [hs]; omega) (by rw [lt_lost]; exact ahead_one)
  rw [hs, lt_lost] at h
  refine h.mono ?_
  rintro e w' ⟨rfl, n, os, rfl⟩
  have hI := inOrd_exists ls
  have hsz : ((cutsOf ls).toArray.toList.mergeSort fun x y => !aheadB y x).toArray.size = (cutsOf ls).toArray.size := by simp
  refine ⟨rfl, _, hI, ?_, ?_⟩
  · exact holdsK_sortWorldK_c encC 2 w gc 0 (cutsOf ls).toArray _ n os hH hg hsz
  · refine ⟨rfl, rfl, rfl, size_sortWorldK_c _ _ _ _ _ _ _ _, fun k hk hne => ?_⟩
    unfold sortWorldK putRowK
    rw [heap_grow_old _ _ (by simpa using hk)]
    simp [putRow, mapBlock, Sort.ahead, Array.getElem?_modify, Ne.symm hne]

theorem Rest.refl (g : Nat) (w : World) : Rest g w w := ⟨rfl, rfl, rfl, Nat.le_refl _, fun _ _ _ => rfl⟩
theorem Rest.alloc {g : Nat} {a w : World} (h : Rest g a w) (o : Obj) : Rest g a (w.alloc o) :=
  ⟨h.os, h.tape, h.output, by have := h.size; simp; omega, fun k hk hne => by rw [Below.heap_alloc _ _ _ (by have := h.size; omega)]; exact h.block k hk hne⟩
theorem Rest.set_new {g : Nat} {a w : World} (h : Rest g a w) (b o : Nat) (hb : a.heap.size ≤ b) (u : Value) : Rest g a (w.setCell ⟨b, o, none⟩ u) :=
  ⟨h.os, h.tape, h.output, by simpa using h.size, fun k hk hne => by rw [Below.heap_setCell _ _ _ _ (by simp only; omega)]; exact h.block k hk hne⟩
theorem Rest.set_own {g : Nat} {a w : World} (h : Rest g a w) (o : Nat) (u : Value) : Rest g a (w.setCell ⟨g, o, none⟩ u) :=
  ⟨h.os, h.tape, h.output, by simpa using h.size, fun k hk hne => by rw [Below.heap_setCell _ _ _ _ hne]; exact h.block k hk hne⟩

/-- A whole block of numbers. -/
def IntBlk (w : World) (g : Nat) (xs : List Int) : Prop := w.heap[g]? = some (.cells (xs.map (Value.int .i64)).toArray 3 (0, 0))
theorem IntBlk.lt {w : World} {g : Nat} {xs : List Int} (h : IntBlk w g xs) : g < w.heap.size := (Array.getElem?_eq_some_iff.1 h).1
theorem IntBlk.cell {w : World} {g : Nat} {xs : List Int} (h : IntBlk w g xs) (i : Nat) (hi : i < xs.length) : w.cell? ⟨g, i, none⟩ = some (.int .i64 (xs.getD i 0)) ∧ w.frozen? ⟨g, i, none⟩ = false := by
  unfold IntBlk at h
  constructor
  · simp [World.cell?, h, hi]
  · simp [World.frozen?, h]
theorem IntBlk.set {w : World} {g : Nat} {xs : List Int} (h : IntBlk w g xs) (i : Nat) (x : Int) : IntBlk (w.setCell ⟨g, i, none⟩ (.int .i64 x)) g (xs.set i x) := by
  unfold IntBlk at *
  rw [setCell_eq]
  simp [mapBlock, Array.getElem?_modify, h, onCells, List.map_set]
theorem IntBlk.alloc {w : World} {g : Nat} {xs : List Int} (h : IntBlk w g xs) (o : Obj) : IntBlk (w.alloc o) g xs := by
  have := h.lt
  unfold IntBlk at *
  rw [Below.heap_alloc _ _ _ this]
  exact h
theorem IntBlk.set_other {w : World} {g : Nat} {xs : List Int} (h : IntBlk w g xs) (b o : Nat) (hb : g ≠ b) (u : Value) : IntBlk (w.setCell ⟨b, o, none⟩ u) g xs := by
  unfold IntBlk at *
  rw [Below.heap_setCell _ _ _ _ hb]
  exact h

set_option maxHeartbeats 1000000 in
theorem giveLeft_any (B gs gc l left : Nat) (A ls : List Int) (w : World) (hA : A.length = l) (hl : ls.length = l) (hb : l ≤ 1000000) (hle : left ≤ l) (ha : ∀ x ∈ A, 0 ≤ x ∧ x ≤ 1152921504606846976)
    (hS : IntBlk w gs A) (hH : HoldsK encC 2 w gc 0 (cutsOf ls).toArray) (hg : gc < w.heap.size) (hne : gc ≠ gs) (b1 : B ≤ gs) (b2 : B ≤ gc) :
    Calls Try.prog 21 #[.int .i64 left, .slice (some ⟨gs, 0, none⟩) l l, .slice (some ⟨gc, 0, none⟩) l l] w fun e w' => e = .returned (.tuple #[]) ∧ IntBlk w' gs (bump A ls left) ∧ Below B w w' := by
  have hsort := cutSort_any gc l ls w hl hb hH hg
  have hSl := hS.lt
  go_enter Try.func21, Try.ntmps21
  go_wp2_with (go_at_call 31; refine hsort.mono ?_; rintro e w1 ⟨rfl, L, hI, hL, hR⟩)
  have hS1 : IntBlk w1 gs (bump A ls 0) := by rw [bump_zero]; unfold IntBlk at *; rw [hR.block gs hSl (Ne.symm hne)]; exact hS
  have HL : Hid (∀ k, k < left → ∃ i : Nat, i < l ∧ rankOf ls i = k ∧ w1.cell? ⟨gc, k * 2, none⟩ = some (.int .i64 i) ∧ ∃ q, w1.cell? ⟨gc, k * 2 + 1, none⟩ = some (.int .i64 q)) := fun k hk => by
    have hk' : k < L.length := by rw [hI.length]; omega
    obtain ⟨i, hi, e1, e2⟩ := hI.place k _ (List.getElem?_eq_getElem hk')
    have d1 := HoldsK.cell hL (i := k) (c := 0) (by simpa using hk') (by decide)
    have d2 := HoldsK.cell hL (i := k) (c := 1) (by simpa using hk') (by decide)
    have e3 : L.toArray[k]! = ((i : Int), ls.getD i 0) := by simp [hk', e1]
    rw [e3] at d1 d2
    simp only [Nat.zero_add, Nat.add_zero] at d1 d2
    exact ⟨i, by omega, e2, d1.1, _, d2.1⟩
  have HN : Hid (∀ k i, i < l → rankOf ls i = k → (bump A ls k).set i (A.getD i 0 + 1) = bump A ls (k + 1) ∧ (bump A ls k).getD i 0 = A.getD i 0) := fun k i hi e => hI.next (by omega) k i (by omega) e
  have HA : Hid (∀ i, i < l → 0 ≤ A.getD i 0 ∧ A.getD i 0 ≤ 1152921504606846976) := fun i hi => ha _ (by simp [List.getD_eq_getElem?_getD, show i < A.length by omega])
  have HB : Hid (∀ k, (bump A ls k).length = l) := fun k => by rw [bump_length, hA]
  have HW : Hid (∀ wr, Rest gs w1 wr → Below B w wr) := fun wr h => ⟨h.os.trans hR.os, h.tape.trans hR.tape, h.output.trans hR.output, Nat.le_trans hR.size h.size, fun k hk => by
    rw [h.block k (by have := hR.size; omega) (by omega), hR.block k (by omega) (by omega)]⟩
  have hg1 : gc < w1.heap.size := by have := hR.size; omega
  have hs1 : gs < w1.heap.size := by have := hR.size; omega
  clear hsort hI hL hR ha hA hl hS hH hg hSl
  go_loopw [14] (fun i wr => ∃ k : Nat, k ≤ left ∧ i = .int .i64 k ∧ IntBlk wr gs (bump A ls k) ∧ Rest gs w1 wr) (fun i _ => left - (intOf i).toNat)
  case atStart => exact ⟨0, Nat.zero_le _, rfl, hS1, Rest.refl _ _⟩
  case round =>
    obtain ⟨k, hk, rfl, hI, hR⟩ := hrel
    by_cases hlt : k < left
    · obtain ⟨i, hi, hr, c1, q, c2⟩ := HL.out k hlt
      obtain ⟨n1, n2⟩ := HN.out k i hi hr
      obtain ⟨a0, a1⟩ := HA.out i hi
      have d1 : wr.cell? ⟨gc, k * 2, none⟩ = some (.int .i64 i) := (World.cell?_of_block (w := w1) (hR.block gc hg1 hne)).trans c1
      have d2 : wr.cell? ⟨gc, k * 2 + 1, none⟩ = some (.int .i64 q) := (World.cell?_of_block (w := w1) (hR.block gc hg1 hne)).trans c2
      have HI : Hid (IntBlk wr gs (bump A ls k)) := hI
      have HR : Hid (Rest gs w1 wr) := hR
      clear c1 c2 hI hR
      go_upto_region 4 with fail
      obtain ⟨g, hg⟩ : ∃ g, wr.heap.size = g := ⟨_, rfl⟩
      refine wp_letter (fun wx => IntBlk wx gs (bump A ls k) ∧ Rest gs w1 wx ∧ wx.cell? ⟨g, 0, none⟩ = some (.int .i64 i)) ?_ ?_
      · exact ⟨HI.out.alloc _, HR.out.alloc _, by rw [← hg]; simp [go_sem]⟩
      rintro wx ⟨hI, hR, hc⟩
      rw [hg]
      obtain ⟨e1, e2⟩ := hI.cell i (by rw [HB.out]; exact hi)
      rw [n2] at e1
      generalize A.getD i 0 = a at *
      have HS : Hid (IntBlk (wx.setCell ⟨gs, i, none⟩ (.int .i64 (a + 1))) gs (bump A ls (k + 1))) := by rw [← n1]; exact hI.set i _
      have HR2 : Hid (Rest gs w1 (wx.setCell ⟨gs, i, none⟩ (.int .i64 (a + 1)))) := hR.set_own _ _
      clear hI hR n1 n2 hg d1 d2
      go_wp2
      go_roundw
      case rel => exact ⟨k + 1, by omega, by go_num, HS.out, HR2.out⟩
      case measure => simp [intOf]; omega
    · obtain rfl : k = left := by omega
      have HO : Hid (IntBlk wr gs (bump A ls k)) := hI
      have HB2 : Hid (Below B w wr) := HW.out wr hR
      clear hI hR
      go_wp2
      go_end0
      exact ⟨rfl, HO.out, HB2.out⟩

end Go.Proofs.Ytmchjfiaphkpdaa
