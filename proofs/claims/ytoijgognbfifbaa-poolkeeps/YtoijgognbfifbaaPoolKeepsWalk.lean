/-
  The walk of PoolKeeps.
-/
import Derived.Test.YtoijgognbfifbaaPoolRunsWalk
import Derived.Test.YtoijgognbfifbaaKeepP
namespace Go.Proofs.Ytoijgognbfifbaa
open Go.RowKit

theorem Try.info_int : (Try.prog.info? 3).map (fun i => (i.zero, i.size, i.bytes)) = some (some (.int .i64 0), 1, 8) := by kernel_rfl
theorem intF_len (x : Int) : (intF x).length = 1 := rfl
theorem intF_one (x : Int) : ∀ u ∈ intF x, u.oneCell' = true := by
  intro u hu
  simp only [intF, List.mem_cons, List.not_mem_nil, or_false] at hu
  subst hu
  rfl
/-- Two rows that grow beside each other: the loans as they stand, and what is lost of each. -/
structure TwoR (w wx : World) (v y : Value) (j i : Nat) (q : List LoanP) : Prop where
  below : Below w.heap.size w wx
  now : wx.ownsRow w.heap.size 25 2 v j (((q.take j).map LoanP.ln).flatMap LnT.f)
  lost : wx.ownsRow w.heap.size 3 1 y i (((q.take i).map LoanP.lost).flatMap intF)
  apart : ∀ g, v.ownBlock = some g → y.ownBlock ≠ some g
theorem TwoR.then {w wx wy : World} {v y : Value} {j i : Nat} {q : List LoanP} (h : TwoR w wx v y j i q) (k : Below wx.heap.size wx wy) : TwoR w wy v y j i q := ⟨below_then h.below k, own_below h.now k, own_below h.lost k, h.apart⟩
theorem take_map_next {α β : Type} {q : List α} {j : Nat} {o : α} (f : α → β) (h : q[j]? = some o) : (q.take (j + 1)).map f = (q.take j).map f ++ [f o] := by
  obtain ⟨hj, rfl⟩ := List.getElem?_eq_some_iff.1 h
  rw [List.take_succ_eq_append_getElem hj, List.map_append]
  rfl
theorem TwoR.now1 {w wx w2 : World} {v v' y : Value} {j i : Nat} {q : List LoanP} {o : LoanP} (h : TwoR w wx v y j i q) (ho : q[j]? = some o) (ow : w2.ownsRow w.heap.size 25 2 v' (j + 1) (((q.take j).map LoanP.ln).flatMap LnT.f ++ LnT.f o.ln)) (gr : wx.grownBy w2 v.ownBlock) (ob : v'.ownBlock = v.ownBlock ∨ v'.ownBlock = some wx.heap.size) : TwoR w w2 v' y (j + 1) i q := by
  refine ⟨below_grown h.below gr (fun k e => (h.now.lt k e).1), ?_, own_same h.lost fun g hg => gr.block g (h.lost.lt g hg).2 (fun e => h.apart g e.symm hg), fun g hg hy => ?_⟩
  · rw [take_map_next LoanP.ln ho]
    exact own_more _ ow
  · rcases ob with e | e
    · exact h.apart g (e ▸ hg) hy
    · rw [e] at hg
      injection hg with hg
      have := (h.lost.lt g hy).2
      omega
theorem TwoR.lost1 {w wx w2 : World} {v y y' : Value} {j i : Nat} {q : List LoanP} {o : LoanP} (h : TwoR w wx v y j i q) (ho : q[i]? = some o) (ow : w2.ownsRow w.heap.size 3 1 y' (i + 1) (((q.take i).map LoanP.lost).flatMap intF ++ intF o.lost)) (gr : wx.grownBy w2 y.ownBlock) (ob : y'.ownBlock = y.ownBlock ∨ y'.ownBlock = some wx.heap.size) : TwoR w w2 v y' j (i + 1) q := by
  refine ⟨below_grown h.below gr (fun k e => (h.lost.lt k e).1), own_same h.now fun g hg => gr.block g (h.now.lt g hg).2 (fun e => h.apart g hg e.symm), ?_, fun g hg hy => ?_⟩
  · rw [take_map_next LoanP.lost ho]
    exact own_more _ ow
  · rcases ob with e | e
    · exact h.apart g hg (e ▸ hy)
    · rw [e] at hy
      injection hy with hy
      have := (h.now.lt g hg).2
      omega
theorem TwoR.nil (w : World) (q : List LoanP) : TwoR w w (.slice none 0 0) (.slice none 0 0) 0 0 q := ⟨Below.refl _ _, World.ownsRow_nil _ _ _ _, World.ownsRow_nil _ _ _ _, fun g h => by simp [Value.ownBlock] at h⟩
theorem own_slice {w : World} {base m n : Nat} {e : TypeId} {v : Value} {xs : List Value} (h : w.ownsRow base e m v n xs) : ∃ a cap, v = .slice a n cap := by
  rcases own_shape h with rfl | ⟨cap, g, rfl⟩
  · rcases h.2 with ⟨_, rfl⟩ | ⟨g, cap, cur, e, _⟩
    · exact ⟨none, 0, rfl⟩
    · simp at e
  · exact ⟨_, _, rfl⟩

/-- All that is held when the tape has been applied: the pool turned, its copy, what it was, the tape, what came. -/
structure KpB (w wx : World) (g c ga : Nat) (q q' : List LoanP) (gg : AggP) (va vt : Value) (base m : Nat) (t : List LineT) : Prop where
  mp : OvM w wx g q'
  pc : PoolM wx c q
  la : Lies 5 LoanP.f wx va q
  ot : wx.ownsRow base 32 7 vt m (t.flatMap LineT.f)
  ba : Blk wx ga 27 gg.f
  px : ∀ b, vt.ownBlock = some b → PoolX wx g q' b
  sz : base ≤ wx.heap.size
theorem KpB.then {w wx wy : World} {g c ga : Nat} {q q' : List LoanP} {gg : AggP} {va vt : Value} {base m : Nat} {t : List LineT} (h : KpB w wx g c ga q q' gg va vt base m t) (k : Below wx.heap.size wx wy) : KpB w wy g c ga q q' gg va vt base m t :=
  ⟨h.mp.then k, h.pc.below k, h.la.below k, own_below h.ot k, h.ba.then k, fun b hb => (h.px b hb).below k, Nat.le_trans h.sz k.size⟩

theorem PoolM.grown {w w' : World} {b : Nat} {p : List LoanP} {row : Option Nat} (hM : PoolM w b p) (hx : ∀ h, row = some h → PoolX w b p h) (gr : w.grownBy w' row) : PoolM w' b p := by
  cases row with
  | none => exact hM.below ⟨gr.os, gr.tape, gr.output, gr.size, fun k hk => gr.block k hk (by simp)⟩
  | some h => exact (hx h rfl).rest ⟨gr.os, gr.tape, gr.output, gr.size, fun k hk hn => gr.block k hk (fun e => hn (Option.some.inj e.symm).symm)⟩
/-- What Find tells, and what that is. -/
theorem find_val (n : Int) (q : List LoanP) : ∃ (F : LoanP) (ok : Bool), findP n q = .tuple #[F.v, .bool ok] ∧ ((ok = false ∧ F = LoanP.zero ∧ ∀ o ∈ q, o.id ≠ n) ∨ (ok = true ∧ F ∈ q ∧ F.id = n)) := by
  unfold findP
  cases h : atP n q with
  | none => exact ⟨LoanP.zero, false, rfl, Or.inl ⟨rfl, rfl, atP_none h⟩⟩
  | some i =>
    obtain ⟨o, ho, hid⟩ := atP_some h
    exact ⟨o, true, by simp [ho], Or.inr ⟨rfl, mem_at ho, hid⟩⟩
def sameP (y f : LoanP) : Bool := (y.id == f.id) && (y.bal == f.bal) && (y.lost == f.lost) && (y.late == f.late) && (y.over == f.over)
/-- Is it among these, by this Id? -/
def inP (l : List LoanP) (f : LoanP) (n : Int) : Bool := l.any fun y => (y.id == n) && sameP y f
theorem inP_next {l : List LoanP} {k : Nat} {y f : LoanP} {n : Int} (h : l[k]? = some y) : inP (l.take (k + 1)) f n = (inP (l.take k) f n || ((y.id == n) && sameP y f)) := by
  obtain ⟨hk, rfl⟩ := List.getElem?_eq_some_iff.1 h
  unfold inP
  rw [List.take_succ_eq_append_getElem hk, List.any_append]
  simp
theorem inP_ok {q : List LoanP} {F : LoanP} {ok : Bool} {n : Int} (h : (ok = false ∧ F = LoanP.zero ∧ ∀ o ∈ q, o.id ≠ n) ∨ (ok = true ∧ F ∈ q ∧ F.id = n)) : inP q F n = ok := by
  unfold inP
  rcases h with ⟨rfl, _, h⟩ | ⟨rfl, h1, h2⟩
  · rw [List.any_eq_false]
    intro y hy
    simp [h y hy]
  · rw [List.any_eq_true]
    exact ⟨F, h1, by simp [h2, sameP]⟩

/-- Is there a line of this Id? -/
def anyId (l : List LineT) (n : Int) : Bool := l.any fun y => y.id == n
theorem anyId_next {l : List LineT} {k : Nat} {y : LineT} {n : Int} (h : l[k]? = some y) : anyId (l.take (k + 1)) n = (anyId (l.take k) n || (y.id == n)) := by
  obtain ⟨hk, rfl⟩ := List.getElem?_eq_some_iff.1 h
  unfold anyId
  rw [List.take_succ_eq_append_getElem hk, List.any_append]
  simp
theorem anyId_no {l : List LineT} {n : Int} (h : anyId l n = false) : ∀ y ∈ l, y.id ≠ n := by
  unfold anyId at h
  rw [List.any_eq_false] at h
  intro y hy
  simpa using h y hy

set_option maxRecDepth 1000000 in
set_option maxHeartbeats 6000000 in
theorem poolKeeps_any (v0 v1 : Value) (zs : List Int) (nt : Nat) (n0 : Int) (w : World) (h0 : Lies 1 intF w v0 zs) (h1 : TapesIn w v1 nt) :
    Calls Try.prog 5 #[v0, v1, .int .i64 n0] w fun e w' => e = .returned (.bool true) ∧ Below w.heap.size w w' := by
  obtain ⟨j0, hj, hj0, hj1, hj2⟩ := info_parts Try.info_ln
  obtain ⟨i0, hi, hz0, hz1, hz2⟩ := info_parts Try.info_int
  obtain ⟨l0, hl, hl0, hl1, hl2⟩ := info_parts Try.info_line
  obtain ⟨ta, tc, rfl, hnt, htape⟩ := h1
  have hm : nt ≤ 9223372036854775807 := by unfold maxLen at *; omega
  have HT : Hid (∀ i, i < nt → ∃ b off s0 s1 s2 s3 s4 s5, ta = some ⟨b, off, none⟩ ∧ w.cell? ⟨b, off + i * 6, none⟩ = some s0 ∧ w.cell? ⟨b, off + i * 6 + 1, none⟩ = some s1 ∧ w.cell? ⟨b, off + i * 6 + 2, none⟩ = some s2 ∧ w.cell? ⟨b, off + i * 6 + 3, none⟩ = some s3 ∧ w.cell? ⟨b, off + i * 6 + 4, none⟩ = some s4 ∧ w.cell? ⟨b, off + i * 6 + 5, none⟩ = some s5 ∧ TapeIn w (.agg #[s0, s1, s2, s3, s4, s5])) := htape
  clear htape hnt
  go_enter Try.func5, Try.ntmps5
  go_upto_region 2 with (go_at_call 11; refine (loansK_any v0 zs _ h0).mono ?_; rintro e w1 ⟨vl, kk, xs, rfl, hkk, hX, hO, d1⟩)
  have LX : Hid (Lies 2 LnT.f w1 vl xs) := own_lies LnT.len hO hX.len
  have QX : Hid (QOk (xs.map LnT.begin)) := hX.q hkk
  have hxl : xs.length ≤ 1000 := by rw [hX.len]; omega
  go_upto_region 3 with (go_at_call 7; refine (new_any vl xs _ LX.out hxl).mono ?_; rintro e w2 ⟨g, rfl, hg, d2, hP⟩)
  have M0 : Hid (OvM w w2 g (xs.map LnT.begin)) := ⟨below_then d1 d2, Nat.le_trans d1.size hg, hP⟩
  clear LX hX hO d1 d2 hP hg hxl hkk
  go_upto_region 6 with (go_at_call 9; refine (balance_any g _ _ 100000 M0.out.pool QX.out.wf (by decide) (by have := QX.out.len; omega)).mono ?_; rintro e w3 ⟨rfl, d3⟩)
  have M1 : Hid (OvM w w3 g (xs.map LnT.begin)) := M0.out.then d3
  have HB0 := begin_lost xs
  generalize xs.map LnT.begin = q0 at M1 QX HB0
  clear M0 d3
  go_wp2
  go_loopw [9, 10, 11] (fun a b i wr => ∃ (k : Nat) (q : List LoanP), k ≤ 8 ∧ i = .int .i64 k ∧ QOk q ∧ a = .int .i64 (sumBy LoanP.bal q) ∧ b = .int .i64 (sumBy LoanP.lost q) ∧ OvM w wr g q) (fun _ _ i _ => 8 - (intOf i).toNat)
  case atStart => exact ⟨0, q0, by omega, rfl, QX.out, rfl, by rw [HB0], M1.out⟩
  case round =>
  clear M1 QX HB0
  obtain ⟨k, q, hk, rfl, hQ, rfl, rfl, hM⟩ := hrel
  have HQ : Hid (QOk q) := hQ
  obtain ⟨u1, u2, u3, u4⟩ := hQ.sum
  have hql : q.length ≤ 10 := hQ.len
  clear hQ
  have HM : Hid (OvM w wr g q) := hM
  clear hM
  by_cases g1 : k < nt
  · by_cases g2 : k < 8
    · obtain ⟨tb, toff, s0, s1, s2, s3, s4, s5, rfl, t0, t1, t2, t3, t4, t5, hti⟩ := HT.out k g1
      have HTI : Hid (TapeIn w (.agg #[s0, s1, s2, s3, s4, s5])) := hti
      have CT : Hid (∀ wx, Below w.heap.size w wx → wx.cell? ⟨tb, toff + k * 6, none⟩ = some s0 ∧ wx.cell? ⟨tb, toff + k * 6 + 1, none⟩ = some s1 ∧ wx.cell? ⟨tb, toff + k * 6 + 2, none⟩ = some s2 ∧ wx.cell? ⟨tb, toff + k * 6 + 3, none⟩ = some s3 ∧ wx.cell? ⟨tb, toff + k * 6 + 4, none⟩ = some s4 ∧ wx.cell? ⟨tb, toff + k * 6 + 5, none⟩ = some s5) := fun wx bx => ⟨cell_keep bx t0, cell_keep bx t1, cell_keep bx t2, cell_keep bx t3, cell_keep bx t4, cell_keep bx t5⟩
      clear hti t0 t1 t2 t3 t4 t5
      go_upto_region 12 with (go_at_call 19; refine (loans_any g q _ HM.out.pool (by omega)).mono ?_; rintro e w4 ⟨va, rfl, oa, d4⟩)
      have M4 : Hid (OvM w w4 g q) := HM.out.then d4
      obtain ⟨n, en⟩ : ∃ n, q.length = n := ⟨_, rfl⟩
      have HN : Hid (q.length = n) := en
      rw [en] at oa hql
      have OA : Hid (w4.ownsRow wr.heap.size 58 5 va n (q.flatMap LoanP.f)) := oa
      have hn64 : n ≤ 9223372036854775807 := by omega
      have hgw : g < wr.heap.size := HM.out.pool.lt
      have h4w : wr.heap.size ≤ w4.heap.size := d4.size
      clear oa HM d4 en
      have LA : Hid (Lies 5 LoanP.f w4 va q) := own_lies LoanP.len OA.out HN.out
      obtain ⟨aA, capA, rfl⟩ := own_slice OA.out
      go_wp2
      go_loopw [12, 13, 55] (fun p r i wx => ∃ j : Nat, j ≤ n ∧ i = .int .i64 j ∧ TwoR w4 wx p r j j q) (fun _ _ i _ => n - (intOf i).toNat)
      case atStart => exact ⟨0, Nat.zero_le _, rfl, TwoR.nil _ _⟩
      case round =>
      obtain ⟨j, hjj, rfl, hR⟩ := hrel
      by_cases hjn : j < n
      · obtain ⟨xb, xo, x, rfl, hx, _, x0, x1, x2, x3, x4⟩ := LA.out.loan j hjn
        replace x0 := cell_keep hR.below x0
        replace x1 := cell_keep hR.below x1
        replace x2 := cell_keep hR.below x2
        replace x3 := cell_keep hR.below x3
        replace x4 := cell_keep hR.below x4
        have HX : Hid (q[j]? = some x) := hx
        have HR : Hid (TwoR w4 wr u12 u13 j j q) := hR
        clear hx hR
        go_upto_region 15 with fail
        refine wp_letter (fun wx => ∃ gx, wr.heap.size = gx ∧ Blk wx gx 58 x.f ∧ TwoR w4 wx u12 u13 j j q ∧ u12.ownBlock ≠ some gx) ⟨_, rfl, Blk.fresh _ _ _, HR.out.then (below_alloc (Below.refl _ _) _), fun e => by have := (HR.out.now.lt _ e).2; omega⟩ ?_
        clear HR x0 x1 x2 x3 x4
        rintro X ⟨gx, egx, bx, hR, hgx⟩
        rw [egx]
        clear egx
        have x0 := bx.cell 0 _ rfl; have x1 := bx.cell 1 _ rfl
        have BX : Hid (Blk X gx 58 x.f) := bx
        have HR : Hid (TwoR w4 (X.alloc (.cells #[.int .i64 x.id, .int .i64 x.bal] 25)) u12 u13 j j q) := hR.then (below_alloc (Below.refl _ _) _)
        clear bx hR
        have SR : Hid (Src (X.alloc (.cells #[.int .i64 x.id, .int .i64 x.bal] 25)) (.slice (some ⟨X.heap.size, 0, none⟩) 1 1) 1 (LnT.f x.ln)) := src_new X _ 1 _
        go_upto_region 16 with ((refine wpList_append_src rfl (.tmp 59) (.tmp 62) 38 rfl w4.heap.size 25 j0 (.agg #[.int .i64 0, .int .i64 0]) 2 16 Try.underlying38 hj hj0 hj1 hj2 rfl (by decide) u12 j (((q.take j).map LoanP.ln).flatMap LnT.f) rfl HR.out.now (.slice (some ⟨X.heap.size, 0, none⟩) 1 1) 1 (LnT.f x.ln) rfl SR.out rfl (LnT.one _) (by unfold maxLen; omega) (by omega) HR.out.below.size ?_; intro p' w5 ow gr ob))
        have R5 : Hid (TwoR w4 w5 p' u13 (j + 1) j q) := HR.out.now1 HX.out ow gr ob
        have x2 := ((BX.out.alloc _).same (gr.block gx (by have := BX.out.lt; simp; omega) (fun e => hgx e.symm))).cell 2 _ rfl
        have HR2 : Hid (TwoR w4 (w5.alloc (.cells #[.int .i64 x.lost] 3)) p' u13 (j + 1) j q) := R5.out.then (below_alloc (Below.refl _ _) _)
        have SR2 : Hid (Src (w5.alloc (.cells #[.int .i64 x.lost] 3)) (.slice (some ⟨w5.heap.size, 0, none⟩) 1 1) 1 (intF x.lost)) := src_new w5 _ 1 _
        clear ow gr ob x0 x1 HR R5 BX SR
        go_upto_region 17 with ((refine wpList_append_src rfl (.tmp 64) (.tmp 67) 36 rfl w4.heap.size 3 i0 (.int .i64 0) 1 8 Try.underlying36 hi hz0 hz1 hz2 rfl (by decide) u13 j (((q.take j).map LoanP.lost).flatMap intF) rfl HR2.out.lost (.slice (some ⟨w5.heap.size, 0, none⟩) 1 1) 1 (intF x.lost) rfl SR2.out rfl (intF_one _) (by unfold maxLen; omega) (by omega) HR2.out.below.size ?_; intro r' w6 ow gr ob))
        have R6 : Hid (TwoR w4 w6 p' r' (j + 1) (j + 1) q) := HR2.out.lost1 HX.out ow gr ob
        clear ow gr ob HR2 SR2 x2
        go_wp2
        go_roundw
        case rel => exact ⟨j + 1, by omega, by go_num, R6.out⟩
        case measure => simp [intOf]; omega
      · obtain rfl : j = n := by omega
        have HR : Hid (TwoR w4 wr u12 u13 j j q) := hR
        obtain ⟨W5, eW5⟩ : ∃ W5, W5 = wr := ⟨_, rfl⟩
        subst eW5
        clear hR
        have htk : q.take j = q := by rw [← HN.out]; exact List.take_length
        have LN : Hid (Lies 2 LnT.f W5 u12 (q.map LoanP.ln)) := own_lies LnT.len (by have := HR.out.now; rw [htk] at this; exact this) (by rw [List.length_map]; exact HN.out)
        have LL : Hid (Lies 1 intF W5 u13 (q.map LoanP.lost)) := own_lies intF_len (by have := HR.out.lost; rw [htk] at this; exact this) (by rw [List.length_map]; exact HN.out)
        have M5 : Hid (OvM w W5 g q) := M4.out.then HR.out.below
        have LA5 : Hid (Lies 5 LoanP.f W5 (.slice aA j capA) q) := LA.out.below HR.out.below
        have hOA : ∀ b, (Value.slice aA j capA).ownBlock = some b → wr.heap.size ≤ b := fun b hb => (OA.out.lt b hb).1
        have h5w : wr.heap.size ≤ W5.heap.size := Nat.le_trans h4w HR.out.below.size
        obtain ⟨t0, t1, t2, t3, t4, t5⟩ := CT.out W5 M5.out.below
        clear HR htk M4 OA LA h4w
        go_upto_region 19 with (go_at_call 14; refine (of_any _ u12 u13 q W5 100000 (HTI.out.below M5.out.below) LN.out LL.out HQ.out.wf (by decide) (by have := HN.out; omega)).mono ?_; rintro e w7 ⟨vt, ls, rfl, hls, ot, d7⟩)
        clear t0 t1 t2 t3 t4 t5 LN LL
        obtain ⟨q', gg, hTu⟩ := HQ.out.turn hls
        have TU : Hid (Turned q (theLines ls) q' gg) := hTu
        generalize theLines ls = t at TU ot
        obtain ⟨m, em⟩ : ∃ m, t.length = m := ⟨_, rfl⟩
        have HM : Hid (t.length = m) := em
        rw [em] at ot
        have OT : Hid (w7.ownsRow W5.heap.size 32 7 vt m (t.flatMap LineT.f)) := ot
        have M7 : Hid (OvM w w7 g q) := M5.out.then d7
        have LA7 : Hid (Lies 5 LoanP.f w7 (.slice aA j capA) q) := LA5.out.below d7
        have h7w : wr.heap.size ≤ w7.heap.size := Nat.le_trans h5w d7.size
        have h57 : W5.heap.size ≤ w7.heap.size := d7.size
        have hwW5 : w.heap.size ≤ W5.heap.size := M5.out.below.size
        clear hls hTu em ot M5 LA5 d7
        go_upto_region 20 with (go_at_call 20; refine (copy_any g q w7 M7.out.pool (by have := HN.out; omega)).mono ?_; rintro e w8 ⟨c, rfl, hc, d8, pc, px⟩)
        have PX : Hid (PoolX w8 c q g) := px g (by omega)
        have M8 : Hid (OvM w w8 g q) := M7.out.then d8
        have LA8 : Hid (Lies 5 LoanP.f w8 (.slice aA j capA) q) := LA7.out.below d8
        have OT8 : Hid (w8.ownsRow W5.heap.size 32 7 vt m (t.flatMap LineT.f)) := own_below OT.out d8
        have h58 : W5.heap.size ≤ w8.heap.size := Nat.le_trans h57 d8.size
        clear px pc M7 LA7 OT d8
        go_upto_region 23 with (go_at_call 8; refine (apply_yesX TU.out.apply M8.out.pool (own_lies LineT.len OT8.out HM.out) HQ.out.wf (by decide) (by have := HN.out; omega)).mono ?_; rintro e w9 ⟨rfl, r9, p9, x9⟩; unfold AggP.v)
        have K9 : Hid (∃ ga, w9.heap.size = ga ∧ KpB w (w9.alloc (.cells #[.int .i64 gg.pr, .int .i64 gg.it, .int .i64 gg.ls, .int .i64 gg.rc] 27)) g c ga q q' gg (.slice aA j capA) vt W5.heap.size m t) := ⟨_, rfl, ⟨(M8.out.on r9 p9).alloc _, (PX.out.rest r9).below (below_alloc (Below.refl _ _) _), (LA8.out.rest r9 (fun e => by have := hOA g e; omega)).below (below_alloc (Below.refl _ _) _), (own_same OT8.out fun b hb => r9.block b (OT8.out.lt b hb).2 (by have := (OT8.out.lt b hb).1; omega)).alloc _, Blk.fresh _ _ gg.f, fun b hb => (x9 b (OT8.out.lt b hb).2 (by have := (OT8.out.lt b hb).1; omega)).below (below_alloc (Below.refl _ _) _), Nat.le_trans (Nat.le_trans h58 r9.size) (by simp)⟩⟩
        refine wp_letter (fun wx => ∃ ga, w9.heap.size = ga ∧ KpB w wx g c ga q q' gg (.slice aA j capA) vt W5.heap.size m t) K9.out ?_
        clear K9 M8 PX LA8 OT8 r9 p9 x9 hc hOA
        rintro W9 ⟨ga, ega, hK⟩
        rw [ega]
        clear ega
        have HK : Hid (KpB w W9 g c ga q q' gg (.slice aA j capA) vt W5.heap.size m t) := hK
        have a0 := hK.ba.cell 0 _ rfl; have a1 := hK.ba.cell 1 _ rfl; have a2 := hK.ba.cell 2 _ rfl; have a3 := hK.ba.cell 3 _ rfl
        clear hK
        have HJ : Hid (q'.length ≤ 64) := by have := TU.out.len; have := HN.out; show q'.length ≤ 64; omega
        obtain ⟨v1, v2, v3, v4⟩ := TU.out.ok.sum
        have kb1 := TU.out.bals
        have kb2 := TU.out.losts
        obtain ⟨e1, e2, _, _, e3, e4, e5, e6⟩ := TU.out.bd
        obtain ⟨D, eD⟩ : ∃ D, gg.pr + gg.ls = D := ⟨_, rfl⟩
        have D1 : IntKind.i64.wrap (sumBy LoanP.bal q - sumBy LoanP.bal q') = D := by rw [kb1, eD]; exact wrap_in _ (by omega) (by omega)
        have D2 : IntKind.i64.wrap (gg.pr + gg.ls) = D := by rw [eD]; exact wrap_in _ (by omega) (by omega)
        obtain ⟨E, eE⟩ : ∃ E, sumBy LoanP.lost q + gg.ls = E := ⟨_, rfl⟩
        have E1 : IntKind.i64.wrap (sumBy LoanP.lost q + gg.ls) = E := by rw [eE]; exact wrap_in _ (by omega) (by omega)
        have E2 : IntKind.i64.wrap (E - gg.rc) = sumBy LoanP.lost q' := by rw [show E - gg.rc = sumBy LoanP.lost q' by omega]; exact wrap_in _ (by omega) (by omega)
        clear kb1 kb2 e1 e2 e3 e4 e5 e6 eD eE
        have CA : Hid (∀ wx, Below W9.heap.size W9 wx → wx.cell? ⟨ga, 0, none⟩ = some (.int .i64 gg.pr) ∧ wx.cell? ⟨ga, 2, none⟩ = some (.int .i64 gg.ls)) := fun wx bx => ⟨cell_keep bx a0, cell_keep bx a2⟩
        go_region_held3 (fun wx => Below W9.heap.size W9 wx ∧ wx.cell? ⟨ga, 0, none⟩ = some (.int .i64 gg.pr) ∧ wx.cell? ⟨ga, 2, none⟩ = some (.int .i64 gg.ls)) (((try go_split_ands); refine held (CA.out _) ?_; repeat (first | with_reducible assumption | with_reducible refine Below.drew ?_ | with_reducible exact Below.refl _ _)))
          ((go_at_call 9; refine (balance_any g q' _ 100000 (HK.out.mp.pool.below (Below.refl _ _).drew) TU.out.ok.wf (by decide) HJ.out).mono ?_; rintro e w10 ⟨rfl, d10⟩; have bW10 : Below W9.heap.size W9 w10 := below_then (Below.refl _ _).drew d10))
        have K10 : Hid (KpB w w10 g c ga q q' gg (.slice aA j capA) vt W5.heap.size m t) := HK.out.then bW10
        clear HK d10 bW10 CA a0 a1 a2 a3 D1 D2
        have a2 := K10.out.ba.cell 2 _ rfl; have a3 := K10.out.ba.cell 3 _ rfl
        have CB : Hid (∀ wx, Below w10.heap.size w10 wx → wx.cell? ⟨ga, 2, none⟩ = some (.int .i64 gg.ls) ∧ wx.cell? ⟨ga, 3, none⟩ = some (.int .i64 gg.rc)) := fun wx bx => ⟨cell_keep bx a2, cell_keep bx a3⟩
        go_upto_region 25 with fail
        go_region_held3 (fun wx => Below w10.heap.size w10 wx ∧ wx.cell? ⟨ga, 2, none⟩ = some (.int .i64 gg.ls) ∧ wx.cell? ⟨ga, 3, none⟩ = some (.int .i64 gg.rc)) (((try go_split_ands); refine held (CB.out _) ?_; repeat (first | with_reducible assumption | with_reducible refine Below.drew ?_ | with_reducible exact Below.refl _ _)))
          ((go_at_call 9; refine (balance_any g q' _ 100000 (K10.out.mp.pool.below (Below.refl _ _).drew) TU.out.ok.wf (by decide) HJ.out).mono ?_; rintro e w11 ⟨rfl, d11⟩; have bW11 : Below w10.heap.size w10 w11 := below_then (Below.refl _ _).drew d11))
        have K11 : Hid (KpB w w11 g c ga q q' gg (.slice aA j capA) vt W5.heap.size m t) := K10.out.then bW11
        clear K10 d11 bW11 CB a2 a3 E1 E2
        have HJ2 : Hid (q'.length = j) := by have := TU.out.len; have := HN.out; show q'.length = j; omega
        go_upto_region 28 with (go_at_call 10; refine (lost_any g q' _ 100000 K11.out.mp.pool TU.out.ok.wf (by decide) HJ.out).mono ?_; rintro e w12 ⟨rfl, d12⟩)
        have K12 : Hid (KpB w w12 g c ga q q' gg (.slice aA j capA) vt W5.heap.size m t) := K11.out.then d12
        clear K11 d12
        go_upto_region 30 with (first
          | ((go_at_call_of 19 (c); refine (loans_any c q _ K12.out.pc (by have := HN.out; omega)).mono ?_; rintro e w13 ⟨vc, rfl, oc, d13⟩; rw [HN.out] at oc; obtain ⟨ac, cc, rfl⟩ := own_slice oc; have K13 : Hid (KpB w w13 g c ga q q' gg (.slice aA j capA) vt W5.heap.size m t) := K12.out.then d13))
          | ((go_at_call_of 19 (g); refine (loans_any g q' _ K13.out.mp.pool (by have := HJ2.out; omega)).mono ?_; rintro e w14 ⟨vd, rfl, od, d14⟩; rw [HJ2.out] at od; obtain ⟨ad, cd, rfl⟩ := own_slice od)))
        have K14 : Hid (KpB w w14 g c ga q q' gg (.slice aA j capA) vt W5.heap.size m t) := K13.out.then d14
        clear K12 K13 oc od d13 d14
        obtain ⟨at', ct, rfl⟩ := own_slice K14.out.ot
        go_wp2_with ((go_at_call_of 19 (c); refine (loans_any c q _ K14.out.pc (by have := HN.out; omega)).mono ?_; rintro e w15 ⟨vc, rfl, oc, d15⟩; rw [HN.out] at oc; obtain ⟨ac, cc, rfl⟩ := own_slice oc))
        have K15 : Hid (KpB w w15 g c ga q q' gg (.slice aA j capA) (.slice at' m ct) W5.heap.size m t) := K14.out.then d15
        have LC : Hid (Lies 5 LoanP.f w15 (.slice ac j cc) q) := own_lies LoanP.len oc HN.out
        clear K14 oc d15
        go_loopw [135] (fun i wx => ∃ b : Nat, b ≤ j ∧ i = .int .i64 b ∧ Below w15.heap.size w15 wx) (fun i _ => j - (intOf i).toNat)
        case atStart => exact ⟨0, Nat.zero_le _, rfl, Below.refl _ _⟩
        case round =>
        obtain ⟨b, hbj, rfl, hB⟩ := hrel
        by_cases hlb : b < j
        · obtain ⟨xb, xo, x, rfl, hx, _, x0, x1, x2, x3, x4⟩ := LC.out.loan b hlb
          replace x0 := cell_keep hB x0
          replace x1 := cell_keep hB x1
          replace x2 := cell_keep hB x2
          replace x3 := cell_keep hB x3
          replace x4 := cell_keep hB x4
          have HX : Hid (q[b]? = some x) := hx
          clear hx
          go_upto_region 33 with fail
          refine wp_letter (fun wx => ∃ gx, wr.heap.size = gx ∧ Blk wx gx 58 x.f ∧ Below w15.heap.size w15 wx) ⟨_, rfl, Blk.fresh _ _ _, below_alloc hB _⟩ ?_
          clear hB x0 x1 x2 x3 x4
          rintro X1 ⟨gx, egx, bx, hB⟩
          rw [egx]
          clear egx
          have BX : Hid (Blk X1 gx 58 x.f) := bx
          have KX : Hid (KpB w X1 g c ga q q' gg (.slice aA j capA) (.slice at' m ct) W5.heap.size m t) := K15.out.then hB
          have HB1 : Hid (Below w15.heap.size w15 X1) := hB
          clear bx hB
          have hmn : m ≤ 9223372036854775807 := by have := TU.out.lines; have := HM.out; omega
          go_wp2
          go_loopw [23, 142] (fun bb i wx => ∃ z : Nat, z ≤ m ∧ i = .int .i64 z ∧ bb = .bool (anyId (t.take z) x.id) ∧ Below X1.heap.size X1 wx) (fun _ i _ => m - (intOf i).toNat)
          case atStart => exact ⟨0, Nat.zero_le _, rfl, rfl, Below.refl _ _⟩
          case round =>
          obtain ⟨z, hzm, rfl, rfl, hB⟩ := hrel
          by_cases hlz : z < m
          · obtain ⟨yb, yo, y, hyb, hy, _, y0, y1, y2, y3, y4, y5, y6⟩ := (own_lies LineT.len KX.out.ot HM.out).line z hlz
            subst hyb
            replace y0 := cell_keep hB y0
            replace y1 := cell_keep hB y1
            replace y2 := cell_keep hB y2
            replace y3 := cell_keep hB y3
            replace y4 := cell_keep hB y4
            replace y5 := cell_keep hB y5
            replace y6 := cell_keep hB y6
            have x0 := (BX.out.then hB).cell 0 _ rfl
            have x0s := (BX.out.then hB).lt
            have HA : Hid (anyId (t.take (z + 1)) x.id = (anyId (t.take z) x.id || (y.id == x.id))) := anyId_next hy
            clear hy
            cases hN : anyId (t.take z) x.id with
            | true =>
              have HN1 : Hid (anyId (t.take (z + 1)) x.id = true) := by show _ = _; rw [HA.out, hN]; rfl
              go_wp2
              go_roundw
              case rel => exact ⟨z + 1, by omega, by go_num, by rw [HN1.out], below_alloc hB _⟩
              case measure => simp [intOf]; omega
            | false =>
              have HN1 : Hid (anyId (t.take (z + 1)) x.id = (y.id == x.id)) := by show _ = _; rw [HA.out, hN]; rfl
              by_cases hyx : y.id = x.id
              · have HN2 : Hid (anyId (t.take (z + 1)) x.id = true) := by show _ = _; rw [HN1.out]; simp [hyx]
                go_wp2
                go_roundw
                case rel => exact ⟨z + 1, by omega, by go_num, by rw [HN2.out], below_alloc hB _⟩
                case measure => simp [intOf]; omega
              · go_wp2
                go_roundw
                case rel => exact ⟨z + 1, by omega, by go_num, by rw [HN1.out], below_alloc hB _⟩
                case measure => simp [intOf]; omega
          · obtain rfl : z = m := by omega
            have htk : t.take z = t := by rw [← HM.out]; exact List.take_length
            rw [htk]
            have KW : Hid (KpB w wr g c ga q q' gg (.slice aA j capA) (.slice at' z ct) W5.heap.size z t) := KX.out.then hB
            have bxw := BX.out.then hB
            have x0 := bxw.cell 0 _ rfl; have x1 := bxw.cell 1 _ rfl; have x2 := bxw.cell 2 _ rfl; have x3 := bxw.cell 3 _ rfl; have x4 := bxw.cell 4 _ rfl
            obtain ⟨ab, ao, o, rfl, ho, _, o0, o1, o2, o3, o4⟩ := KW.out.la.loan b hlb
            rw [HX.out] at ho
            injection ho with ho
            subst ho
            have HBW : Hid (Below w15.heap.size w15 wr) := below_then HB1.out hB
            clear bxw hB
            cases hN : anyId t x.id with
            | true =>
              go_upto_region 39 with fail
              go_quiet (fail)
              go_wp2
              go_roundw
              case rel => exact ⟨b + 1, by omega, by go_num, below_draws HBW.out _⟩
              case measure => simp [intOf]; omega
            | false =>
              have hstay : Hid (q'[b]? = some x) := TU.out.stay b x HX.out (anyId_no hN)
              go_upto_region 39 with fail
              have C39 : Hid (∀ wx, Below wr.heap.size wr wx → wx.cell? ⟨gx, 0, none⟩ = some (.int .i64 x.id) ∧ wx.cell? ⟨gx, 1, none⟩ = some (.int .i64 x.bal) ∧ wx.cell? ⟨gx, 2, none⟩ = some (.int .i64 x.lost) ∧ wx.cell? ⟨gx, 3, none⟩ = some (.int .i64 x.late) ∧ wx.cell? ⟨gx, 4, none⟩ = some (.bool x.over) ∧ wx.cell? ⟨ab, ao + b * 5, none⟩ = some (.int .i64 x.id) ∧ wx.cell? ⟨ab, ao + b * 5 + 1, none⟩ = some (.int .i64 x.bal) ∧ wx.cell? ⟨ab, ao + b * 5 + 2, none⟩ = some (.int .i64 x.lost) ∧ wx.cell? ⟨ab, ao + b * 5 + 3, none⟩ = some (.int .i64 x.late) ∧ wx.cell? ⟨ab, ao + b * 5 + 4, none⟩ = some (.bool x.over)) := fun wx bx => ⟨cell_keep bx x0, cell_keep bx x1, cell_keep bx x2, cell_keep bx x3, cell_keep bx x4, cell_keep bx o0, cell_keep bx o1, cell_keep bx o2, cell_keep bx o3, cell_keep bx o4⟩
              clear x0 x1 x2 x3 x4 o0 o1 o2 o3 o4
              refine wp_region_held_drew (S := fun wx => Below wr.heap.size wr wx ∧ wx.cell? ⟨gx, 0, none⟩ = some (.int .i64 x.id) ∧ wx.cell? ⟨gx, 1, none⟩ = some (.int .i64 x.bal) ∧ wx.cell? ⟨gx, 2, none⟩ = some (.int .i64 x.lost) ∧ wx.cell? ⟨gx, 3, none⟩ = some (.int .i64 x.late) ∧ wx.cell? ⟨gx, 4, none⟩ = some (.bool x.over) ∧ wx.cell? ⟨ab, ao + b * 5, none⟩ = some (.int .i64 x.id) ∧ wx.cell? ⟨ab, ao + b * 5 + 1, none⟩ = some (.int .i64 x.bal) ∧ wx.cell? ⟨ab, ao + b * 5 + 2, none⟩ = some (.int .i64 x.lost) ∧ wx.cell? ⟨ab, ao + b * 5 + 3, none⟩ = some (.int .i64 x.late) ∧ wx.cell? ⟨ab, ao + b * 5 + 4, none⟩ = some (.bool x.over)) (by kernel_rfl) (by ((try go_split_ands); refine held (C39.out _) ?_; repeat (first | with_reducible assumption | with_reducible exact below_thn (by assumption) (by assumption) | with_reducible refine Below.drew ?_ | with_reducible exact Below.refl _ _))) (fun hHeld => ?_)
              (refine wpAnyH_take (i := 0) (v := ?_) rfl (by kernel_rfl) (by kernel_rfl) (by kernel_rfl) (fun _ _ _ h => h) (Or.inl ⟨by rfl, ?hy⟩) (by assumption) ?_; (case hy => (intro w hSw; (try dsimp only at hSw); go_simp; try with_reducible rfl)); try simp only [List.getElem_toArray, List.getElem_cons_zero, Act.put, List.setIfInBounds_toArray, List.set_cons_zero, List.set_cons_succ])
              (refine wpAnyH_take (i := 1) (v := ?_) rfl (by kernel_rfl) (by kernel_rfl) (by kernel_rfl) (fun _ _ _ h => h) (Or.inl ⟨by rfl, ?hy⟩) (by assumption) ?_; (case hy => (intro w hSw; (try dsimp only at hSw); go_simp; try with_reducible rfl)); try simp only [List.getElem_toArray, List.getElem_cons_succ, List.getElem_cons_zero, Act.put, List.setIfInBounds_toArray, List.set_cons_zero, List.set_cons_succ])
              (refine wpAnyH_take (i := 2) (v := ?_) rfl (by kernel_rfl) (by kernel_rfl) (by kernel_rfl) (fun _ _ _ h => h) (Or.inl ⟨by rfl, ?hy⟩) (by assumption) ?_; (case hy => (intro w hSw; (try dsimp only at hSw); go_simp; try with_reducible rfl)); try simp only [List.getElem_toArray, List.getElem_cons_succ, List.getElem_cons_zero, Act.put, List.setIfInBounds_toArray, List.set_cons_zero, List.set_cons_succ])
              (refine wpAnyH_take (i := 3) (v := ?_) rfl (by kernel_rfl) (by kernel_rfl) (by kernel_rfl) (fun _ _ _ h => h) (Or.inl ⟨by rfl, ?hy⟩) (by assumption) ?_; (case hy => (intro w hSw; (try dsimp only at hSw); go_simp; try with_reducible rfl)); try simp only [List.getElem_toArray, List.getElem_cons_succ, List.getElem_cons_zero, Act.put, List.setIfInBounds_toArray, List.set_cons_zero, List.set_cons_succ])
              (refine wpAnyH_take (i := 4) (v := ?_) rfl (by kernel_rfl) (by kernel_rfl) (by kernel_rfl) (fun _ _ _ h => h) (Or.inl ⟨by rfl, ?hy⟩) (by assumption) ?_; (case hy => (intro w hSw; (try dsimp only at hSw); go_simp; try with_reducible rfl)); try simp only [List.getElem_toArray, List.getElem_cons_succ, List.getElem_cons_zero, Act.put, List.setIfInBounds_toArray, List.set_cons_zero, List.set_cons_succ])
              (refine wpAnyH_take (i := 5) (v := ?_) rfl (by kernel_rfl) (by kernel_rfl) (by kernel_rfl) (fun _ _ _ h => h) (Or.inl ⟨by rfl, ?hy⟩) (by assumption) ?_; (case hy => (intro w hSw; (try dsimp only at hSw); go_simp; try with_reducible rfl)); try simp only [List.getElem_toArray, List.getElem_cons_succ, List.getElem_cons_zero, Act.put, List.setIfInBounds_toArray, List.set_cons_zero, List.set_cons_succ])
              (refine wpAnyH_take (i := 6) (v := ?_) rfl (by kernel_rfl) (by kernel_rfl) (by kernel_rfl) (fun _ _ _ h => h) (Or.inl ⟨by rfl, ?hy⟩) (by assumption) ?_; (case hy => (intro w hSw; (try dsimp only at hSw); go_simp; try with_reducible rfl)); try simp only [List.getElem_toArray, List.getElem_cons_succ, List.getElem_cons_zero, Act.put, List.setIfInBounds_toArray, List.set_cons_zero, List.set_cons_succ])
              (refine wpAnyH_take (i := 7) (v := ?_) rfl (by kernel_rfl) (by kernel_rfl) (by kernel_rfl) (fun _ _ _ h => h) (Or.inl ⟨by rfl, ?hy⟩) (by assumption) ?_; (case hy => (intro w hSw; (try dsimp only at hSw); go_simp; try with_reducible rfl)); try simp only [List.getElem_toArray, List.getElem_cons_succ, List.getElem_cons_zero, Act.put, List.setIfInBounds_toArray, List.set_cons_zero, List.set_cons_succ])
              (refine wpAnyH_take (i := 8) (v := ?_) rfl (by kernel_rfl) (by kernel_rfl) (by kernel_rfl) (fun _ _ _ h => h) (Or.inl ⟨by rfl, ?hy⟩) (by assumption) ?_; (case hy => (intro w hSw; (try dsimp only at hSw); go_simp; try with_reducible rfl)); try simp only [List.getElem_toArray, List.getElem_cons_succ, List.getElem_cons_zero, Act.put, List.setIfInBounds_toArray, List.set_cons_zero, List.set_cons_succ])
              (refine wpAnyH_take (i := 9) (v := ?_) rfl (by kernel_rfl) (by kernel_rfl) (by kernel_rfl) (fun _ _ _ h => h) (Or.inl ⟨by rfl, ?hy⟩) (by assumption) ?_; (case hy => (intro w hSw; (try dsimp only at hSw); go_simp; try with_reducible rfl)); try simp only [List.getElem_toArray, List.getElem_cons_succ, List.getElem_cons_zero, Act.put, List.setIfInBounds_toArray, List.set_cons_zero, List.set_cons_succ])
              (refine wpAnyH_take (i := 10) (v := ?_) rfl (by kernel_rfl) (by kernel_rfl) (by kernel_rfl) (fun _ _ _ h => h) (Or.inl ⟨by rfl, ?hy⟩) (by assumption) ?_; (case hy => (intro w hSw; (try dsimp only at hSw); go_simp; try with_reducible rfl)); try simp only [List.getElem_toArray, List.getElem_cons_succ, List.getElem_cons_zero, Act.put, List.setIfInBounds_toArray, List.set_cons_zero, List.set_cons_succ])
              (refine wpAnyH_take (i := 12) (v := ?_) rfl (by kernel_rfl) (by kernel_rfl) (by kernel_rfl) (fun _ _ _ h => h) (Or.inl ⟨by rfl, ?hy⟩) (by assumption) ?_; (case hy => (intro w hSw; (try dsimp only at hSw); go_simp; try with_reducible rfl)); try simp only [List.getElem_toArray, List.getElem_cons_succ, List.getElem_cons_zero, Act.put, List.setIfInBounds_toArray, List.set_cons_zero, List.set_cons_succ])
              (refine wpAnyH_take (i := 15) (v := ?_) rfl (by kernel_rfl) (by kernel_rfl) (by kernel_rfl) (fun _ _ _ h => h) (Or.inl ⟨by rfl, ?hy⟩) (by assumption) ?_; (case hy => (intro w hSw; (try dsimp only at hSw); go_simp; try with_reducible rfl)); try simp only [List.getElem_toArray, List.getElem_cons_succ, List.getElem_cons_zero, Act.put, List.setIfInBounds_toArray, List.set_cons_zero, List.set_cons_succ])
              (refine wpAnyH_ready (rs := [11]) (by kernel_rfl) (by simp) ?_; refine AllReadyH.cons rfl (fun K hK => ?_) AllReadyH.nil; go_simp; go_wp2_with ((go_at_call 19; refine (loans_any g q' _ (KW.out.mp.pool.below (Below.refl _ _).drew) (by have := HJ2.out; omega)).mono ?_; rintro e w16 ⟨vd, rfl, od, d16⟩; rw [HJ2.out] at od; obtain ⟨cd, gd, rfl⟩ := own_addr od (by omega); obtain ⟨r0, r1, r2, r3, r4⟩ := own_loan od HJ2.out hstay.out; have bW16 : Below wr.heap.size wr w16 := below_then (Below.refl _ _).drew d16)); refine hK.out _ _ (by ((try go_split_ands); refine held (C39.out _) ?_; repeat (first | with_reducible assumption | with_reducible exact below_thn (by assumption) (by assumption) | with_reducible refine Below.drew ?_ | with_reducible exact Below.refl _ _))) (fun hHeld => ?_); clear hK K; try simp only [List.getElem_toArray, List.getElem_cons_succ, List.getElem_cons_zero, Act.put, List.setIfInBounds_toArray, List.set_cons_zero, List.set_cons_succ])
              (refine wpAnyH_take (i := 13) (v := ?_) rfl (by kernel_rfl) (by kernel_rfl) (by kernel_rfl) (fun _ _ _ h => h) (Or.inl ⟨by rfl, ?hy⟩) (by assumption) ?_; (case hy => (intro w hSw; (try dsimp only at hSw); go_simp; try with_reducible rfl)); try simp only [List.getElem_toArray, List.getElem_cons_succ, List.getElem_cons_zero, Act.put, List.setIfInBounds_toArray, List.set_cons_zero, List.set_cons_succ])
              (refine wpAnyH_ready (rs := [14]) (by kernel_rfl) (by simp) ?_; refine AllReadyH.cons rfl (fun K hK => ?_) AllReadyH.nil; go_simp; refine hK.out _ _ (by ((try go_split_ands); refine held (C39.out _) ?_; repeat (first | with_reducible assumption | with_reducible exact below_thn (by assumption) (by assumption) | with_reducible refine Below.drew ?_ | with_reducible exact Below.refl _ _))) (fun hHeld => ?_); clear hK K; try simp only [List.getElem_toArray, List.getElem_cons_succ, List.getElem_cons_zero, Act.put, List.setIfInBounds_toArray, List.set_cons_zero, List.set_cons_succ])
              (refine wpAnyH_take (i := 16) (v := ?_) rfl (by kernel_rfl) (by kernel_rfl) (by kernel_rfl) (fun _ _ _ h => h) (Or.inl ⟨by rfl, ?hy⟩) (by assumption) ?_; (case hy => (intro w hSw; (try dsimp only at hSw); go_simp; try with_reducible rfl)); try simp only [List.getElem_toArray, List.getElem_cons_succ, List.getElem_cons_zero, Act.put, List.setIfInBounds_toArray, List.set_cons_zero, List.set_cons_succ])
              (refine wpAnyH_take (i := 17) (v := ?_) rfl (by kernel_rfl) (by kernel_rfl) (by kernel_rfl) (fun _ _ _ h => h) (Or.inl ⟨by rfl, ?hy⟩) (by assumption) ?_; (case hy => (intro w hSw; (try dsimp only at hSw); go_simp; try with_reducible rfl)); try simp only [List.getElem_toArray, List.getElem_cons_succ, List.getElem_cons_zero, Act.put, List.setIfInBounds_toArray, List.set_cons_zero, List.set_cons_succ])
              (refine wpAnyH_take (i := 18) (v := ?_) rfl (by kernel_rfl) (by kernel_rfl) (by kernel_rfl) (fun _ _ _ h => h) (Or.inl ⟨by rfl, ?hy⟩) (by assumption) ?_; (case hy => (intro w hSw; (try dsimp only at hSw); go_simp; try with_reducible rfl)); try simp only [List.getElem_toArray, List.getElem_cons_succ, List.getElem_cons_zero, Act.put, List.setIfInBounds_toArray, List.set_cons_zero, List.set_cons_succ])
              refine wpAnyH_done (by kernel_rfl) ?_ _
              have hE := hHeld.1
              clear hHeld
              go_wp2
              go_roundw
              case rel => exact ⟨b + 1, by omega, by go_num, below_then HBW.out hE⟩
              case measure => simp [intOf]; omega
        · obtain rfl : b = j := by omega
          have KE : Hid (KpB w wr g c ga q q' gg (.slice aA b capA) (.slice at' m ct) W5.heap.size m t) := K15.out.then hB
          have BG : Hid (∀ o ∈ q', o.id ≠ LineT.id ⟨1073741824, 0, 0, 0, 0, 0, false⟩) := fun o ho => by
            have := TU.out.ok.ids o ho
            show o.id ≠ 1073741824
            omega
          have hm10 : m ≤ 10 := by have := TU.out.lines; have := HM.out; omega
          have OW : Hid ((wr.alloc (.cells #[.int .i64 1073741824, .int .i64 0, .int .i64 0, .int .i64 0, .int .i64 0, .int .i64 0, .bool false] 32)).ownsRow W5.heap.size 32 7 (.slice at' m ct) m (t.flatMap LineT.f)) := KE.out.ot.alloc _
          have SR : Hid (Src (wr.alloc (.cells #[.int .i64 1073741824, .int .i64 0, .int .i64 0, .int .i64 0, .int .i64 0, .int .i64 0, .bool false] 32)) (.slice (some ⟨wr.heap.size, 0, none⟩) 1 1) 1 (LineT.f ⟨1073741824, 0, 0, 0, 0, 0, false⟩)) := src_new wr _ 1 _
          have BS : Hid (W5.heap.size ≤ (wr.alloc (.cells #[.int .i64 1073741824, .int .i64 0, .int .i64 0, .int .i64 0, .int .i64 0, .int .i64 0, .bool false] 32)).heap.size) := by
            have := KE.out.sz
            show W5.heap.size ≤ (wr.alloc (.cells #[.int .i64 1073741824, .int .i64 0, .int .i64 0, .int .i64 0, .int .i64 0, .int .i64 0, .bool false] 32)).heap.size
            simp
            omega
          clear hB LC K15
          go_upto_region 43 with (first
            | ((refine wpList_append_src rfl (.tmp 178) (.tmp 180) 33 rfl W5.heap.size 32 l0 (.agg #[.int .i64 0, .int .i64 0, .int .i64 0, .int .i64 0, .int .i64 0, .int .i64 0, .bool false]) 7 56 Try.underlying33 hl hl0 hl1 hl2 rfl (by decide) (.slice at' m ct) m (t.flatMap LineT.f) rfl OW.out (.slice (some ⟨wr.heap.size, 0, none⟩) 1 1) 1 (LineT.f ⟨1073741824, 0, 0, 0, 0, 0, false⟩) rfl SR.out rfl (LineT.one _) (by unfold maxLen; omega) (by omega) BS.out ?_; intro v' w17 ow gr _; have MX : Hid (OvM w w17 g q') := ⟨below_grown (below_alloc KE.out.mp.below _) gr (fun k h => Nat.le_trans hwW5 (OW.out.lt k h).1), KE.out.mp.low, PoolM.grown (KE.out.mp.pool.below (below_alloc (Below.refl _ _) _)) (fun h e => (KE.out.px h e).below (below_alloc (Below.refl _ _) _)) gr⟩; have LB : Hid (Lies 7 LineT.f w17 v' (t ++ [⟨1073741824, 0, 0, 0, 0, 0, false⟩])) := own_lies LineT.len (own_more _ ow) (by rw [List.length_append, HM.out]; rfl)))
            | ((go_at_call 8; refine (apply_no (applyP_last BG.out) MX.out.pool LB.out TU.out.ok.wf (by decide) HJ.out).mono ?_; rintro e w18 ⟨rfl, d18⟩; unfold AggP.v AggP.zero)))
          have M18 : Hid (OvM w (w18.alloc (.cells #[.int .i64 0, .int .i64 0, .int .i64 0, .int .i64 0] 27)) g q') := (MX.out.then d18).alloc _
          clear KE OW SR BS MX LB ow gr d18
          go_wp2_with ((go_at_call 9; refine (balance_any g q' _ 100000 M18.out.pool TU.out.ok.wf (by decide) HJ.out).mono ?_; rintro e w19 ⟨rfl, d19⟩))
          go_roundw
          case rel => exact ⟨k + 1, q', by omega, by go_num, TU.out.ok, rfl, rfl, M18.out.then d19⟩
          case measure => simp [intOf]; omega
    · obtain ⟨F, okb, hF, hFF⟩ := find_val n0 q
      rcases hFF with ⟨rfl, rfl, hno⟩ | ⟨rfl, hmem, rfl⟩
      · have HF : Hid (findP n0 q = .tuple #[.agg #[.int .i64 0, .int .i64 0, .int .i64 0, .int .i64 0, .bool false], .bool false]) := hF
        have HNO : Hid (∀ o ∈ q, o.id ≠ n0) := hno
        clear hF hno
        go_upto_region 46 with (go_at_call 21; refine (find_any g q _ _ HM.out.pool (by omega)).mono ?_; rintro e w20 ⟨rfl, d20⟩; rw [HF.out])
        refine wp_letter (fun wx => ∃ gf, w20.heap.size = gf ∧ Blk wx gf 58 (LoanP.f LoanP.zero) ∧ OvM w wx g q) ⟨_, rfl, Blk.fresh _ _ (LoanP.f LoanP.zero), (HM.out.then d20).alloc _⟩ ?_
        clear d20 HM
        rintro W20 ⟨gf, egf, bf, hM⟩
        rw [egf]
        clear egf
        have HM : Hid (OvM w W20 g q) := hM
        have BF : Hid (Blk W20 gf 58 (LoanP.f LoanP.zero)) := bf
        clear hM bf
        go_wp2_with (go_at_call 19; refine (loans_any g q _ HM.out.pool (by omega)).mono ?_; rintro e w21 ⟨va, rfl, oa, d21⟩; have LQ : Hid (Lies 5 LoanP.f w21 va q) := own_lies LoanP.len oa rfl; obtain ⟨aa, ca, rfl⟩ := own_slice oa)
        have HM2 : Hid (OvM w w21 g q) := HM.out.then d21
        have BF2 : Hid (Blk w21 gf 58 (LoanP.f LoanP.zero)) := BF.out.then d21
        clear HM BF oa d21
        obtain ⟨n, en⟩ : ∃ n, q.length = n := ⟨_, rfl⟩
        have HN : Hid (q.length = n) := en
        rw [en] at LQ hql ⊢
        have hn64 : n ≤ 9223372036854775807 := by omega
        clear en
        go_loopw [30, 202] (fun bb i wx => ∃ z : Nat, z ≤ n ∧ i = .int .i64 z ∧ bb = .bool (false) ∧ Below w21.heap.size w21 wx) (fun _ i _ => n - (intOf i).toNat)
        case atStart => exact ⟨0, Nat.zero_le _, rfl, rfl, Below.refl _ _⟩
        case round =>
        obtain ⟨z, hzm, rfl, rfl, hB⟩ := hrel
        by_cases hlz : z < n
        · obtain ⟨yb, yo, y, rfl, hy, hyq, y0, y1, y2, y3, y4⟩ := LQ.out.loan z hlz
          replace y0 := cell_keep hB y0
          replace y1 := cell_keep hB y1
          replace y2 := cell_keep hB y2
          replace y3 := cell_keep hB y3
          replace y4 := cell_keep hB y4
          have x0 := (BF2.out.then hB).cell 0 _ rfl; have x1 := (BF2.out.then hB).cell 1 _ rfl; have x2 := (BF2.out.then hB).cell 2 _ rfl; have x3 := (BF2.out.then hB).cell 3 _ rfl; have x4 := (BF2.out.then hB).cell 4 _ rfl
          have hgf := (BF2.out.then hB).lt
          have hyi := HNO.out y hyq
          clear hy
          go_wp2
          go_roundw
          case rel => exact ⟨z + 1, by omega, by go_num, by simp, below_alloc hB _⟩
          case measure => simp [intOf]; omega
        · obtain rfl : z = n := by omega
          have bF := BF2.out.then hB
          have x0 := bF.cell 0 _ rfl; have x1 := bF.cell 1 _ rfl; have x2 := bF.cell 2 _ rfl; have x3 := bF.cell 3 _ rfl; have x4 := bF.cell 4 _ rfl
          have hBw := below_then HM2.out.below hB
          simp only [LoanP.zero] at x0 x1 x2 x3 x4
          go_wp2_with ((go_at_call 3; refine (poolRuns_any _).mono ?_; rintro e wr2 ⟨rfl, dr⟩))
          go_ret
          exact ⟨rfl, below_then hBw dr⟩
      · have HF : Hid (findP F.id q = .tuple #[.agg #[.int .i64 F.id, .int .i64 F.bal, .int .i64 F.lost, .int .i64 F.late, .bool F.over], .bool true]) := hF
        have HI : Hid (inP q F F.id = true) := inP_ok (Or.inr ⟨rfl, hmem, rfl⟩)
        clear hF hmem
        go_upto_region 46 with (go_at_call 21; refine (find_any g q _ _ HM.out.pool (by omega)).mono ?_; rintro e w20 ⟨rfl, d20⟩; rw [HF.out])
        refine wp_letter (fun wx => ∃ gf, w20.heap.size = gf ∧ Blk wx gf 58 (LoanP.f F) ∧ OvM w wx g q) ⟨_, rfl, Blk.fresh _ _ (LoanP.f F), (HM.out.then d20).alloc _⟩ ?_
        clear d20 HM
        rintro W20 ⟨gf, egf, bf, hM⟩
        rw [egf]
        clear egf
        have HM : Hid (OvM w W20 g q) := hM
        have BF : Hid (Blk W20 gf 58 (LoanP.f F)) := bf
        clear hM bf
        go_wp2_with (go_at_call 19; refine (loans_any g q _ HM.out.pool (by omega)).mono ?_; rintro e w21 ⟨va, rfl, oa, d21⟩; have LQ : Hid (Lies 5 LoanP.f w21 va q) := own_lies LoanP.len oa rfl; obtain ⟨aa, ca, rfl⟩ := own_slice oa)
        have HM2 : Hid (OvM w w21 g q) := HM.out.then d21
        have BF2 : Hid (Blk w21 gf 58 (LoanP.f F)) := BF.out.then d21
        clear HM BF oa d21
        obtain ⟨n, en⟩ : ∃ n, q.length = n := ⟨_, rfl⟩
        have HN : Hid (q.length = n) := en
        rw [en] at LQ hql ⊢
        have hn64 : n ≤ 9223372036854775807 := by omega
        clear en
        go_loopw [30, 202] (fun bb i wx => ∃ z : Nat, z ≤ n ∧ i = .int .i64 z ∧ bb = .bool (inP (q.take z) F F.id) ∧ Below w21.heap.size w21 wx) (fun _ i _ => n - (intOf i).toNat)
        case atStart => exact ⟨0, Nat.zero_le _, rfl, rfl, Below.refl _ _⟩
        case round =>
        obtain ⟨z, hzm, rfl, rfl, hB⟩ := hrel
        by_cases hlz : z < n
        · obtain ⟨yb, yo, y, rfl, hy, hyq, y0, y1, y2, y3, y4⟩ := LQ.out.loan z hlz
          replace y0 := cell_keep hB y0
          replace y1 := cell_keep hB y1
          replace y2 := cell_keep hB y2
          replace y3 := cell_keep hB y3
          replace y4 := cell_keep hB y4
          have x0 := (BF2.out.then hB).cell 0 _ rfl; have x1 := (BF2.out.then hB).cell 1 _ rfl; have x2 := (BF2.out.then hB).cell 2 _ rfl; have x3 := (BF2.out.then hB).cell 3 _ rfl; have x4 := (BF2.out.then hB).cell 4 _ rfl
          have hgf := (BF2.out.then hB).lt
          have HA : Hid (inP (q.take (z + 1)) F F.id = (inP (q.take z) F F.id || ((y.id == F.id) && sameP y F))) := inP_next hy
          clear hy
          cases hN : inP (q.take z) F F.id with
          | true =>
            have HN1 : Hid (inP (q.take (z + 1)) F F.id = true) := by show _ = _; rw [HA.out, hN]; rfl
            go_wp2
            go_roundw
            case rel => exact ⟨z + 1, by omega, by go_num, by rw [HN1.out], below_alloc hB _⟩
            case measure => simp [intOf]; omega
          | false =>
            have HN1 : Hid (inP (q.take (z + 1)) F F.id = ((y.id == F.id) && sameP y F)) := by show _ = _; rw [HA.out, hN]; rfl
            by_cases hyi : y.id = F.id
            · go_wp2
              all_goals
                go_roundw
                case rel => exact ⟨z + 1, by omega, by go_num, by rw [HN1.out]; simp [sameP, *], below_alloc hB _⟩
                case measure => simp [intOf]; omega
            · go_wp2
              go_roundw
              case rel => exact ⟨z + 1, by omega, by go_num, by rw [HN1.out]; simp [hyi], below_alloc hB _⟩
              case measure => simp [intOf]; omega
        · obtain rfl : z = n := by omega
          have htk : q.take z = q := by rw [← HN.out]; exact List.take_length
          rw [htk, HI.out]
          have bF := BF2.out.then hB
          have x0 := bF.cell 0 _ rfl; have x1 := bF.cell 1 _ rfl; have x2 := bF.cell 2 _ rfl; have x3 := bF.cell 3 _ rfl; have x4 := bF.cell 4 _ rfl
          have hBw := below_then HM2.out.below hB
          go_wp2_with ((go_at_call 3; refine (poolRuns_any _).mono ?_; rintro e wr2 ⟨rfl, dr⟩))
          go_ret
          exact ⟨rfl, below_then hBw dr⟩
  · obtain ⟨F, okb, hF, hFF⟩ := find_val n0 q
    rcases hFF with ⟨rfl, rfl, hno⟩ | ⟨rfl, hmem, rfl⟩
    · have HF : Hid (findP n0 q = .tuple #[.agg #[.int .i64 0, .int .i64 0, .int .i64 0, .int .i64 0, .bool false], .bool false]) := hF
      have HNO : Hid (∀ o ∈ q, o.id ≠ n0) := hno
      clear hF hno
      go_upto_region 46 with (go_at_call 21; refine (find_any g q _ _ HM.out.pool (by omega)).mono ?_; rintro e w20 ⟨rfl, d20⟩; rw [HF.out])
      refine wp_letter (fun wx => ∃ gf, w20.heap.size = gf ∧ Blk wx gf 58 (LoanP.f LoanP.zero) ∧ OvM w wx g q) ⟨_, rfl, Blk.fresh _ _ (LoanP.f LoanP.zero), (HM.out.then d20).alloc _⟩ ?_
      clear d20 HM
      rintro W20 ⟨gf, egf, bf, hM⟩
      rw [egf]
      clear egf
      have HM : Hid (OvM w W20 g q) := hM
      have BF : Hid (Blk W20 gf 58 (LoanP.f LoanP.zero)) := bf
      clear hM bf
      go_wp2_with (go_at_call 19; refine (loans_any g q _ HM.out.pool (by omega)).mono ?_; rintro e w21 ⟨va, rfl, oa, d21⟩; have LQ : Hid (Lies 5 LoanP.f w21 va q) := own_lies LoanP.len oa rfl; obtain ⟨aa, ca, rfl⟩ := own_slice oa)
      have HM2 : Hid (OvM w w21 g q) := HM.out.then d21
      have BF2 : Hid (Blk w21 gf 58 (LoanP.f LoanP.zero)) := BF.out.then d21
      clear HM BF oa d21
      obtain ⟨n, en⟩ : ∃ n, q.length = n := ⟨_, rfl⟩
      have HN : Hid (q.length = n) := en
      rw [en] at LQ hql ⊢
      have hn64 : n ≤ 9223372036854775807 := by omega
      clear en
      go_loopw [30, 202] (fun bb i wx => ∃ z : Nat, z ≤ n ∧ i = .int .i64 z ∧ bb = .bool (false) ∧ Below w21.heap.size w21 wx) (fun _ i _ => n - (intOf i).toNat)
      case atStart => exact ⟨0, Nat.zero_le _, rfl, rfl, Below.refl _ _⟩
      case round =>
      obtain ⟨z, hzm, rfl, rfl, hB⟩ := hrel
      by_cases hlz : z < n
      · obtain ⟨yb, yo, y, rfl, hy, hyq, y0, y1, y2, y3, y4⟩ := LQ.out.loan z hlz
        replace y0 := cell_keep hB y0
        replace y1 := cell_keep hB y1
        replace y2 := cell_keep hB y2
        replace y3 := cell_keep hB y3
        replace y4 := cell_keep hB y4
        have x0 := (BF2.out.then hB).cell 0 _ rfl; have x1 := (BF2.out.then hB).cell 1 _ rfl; have x2 := (BF2.out.then hB).cell 2 _ rfl; have x3 := (BF2.out.then hB).cell 3 _ rfl; have x4 := (BF2.out.then hB).cell 4 _ rfl
        have hgf := (BF2.out.then hB).lt
        have hyi := HNO.out y hyq
        clear hy
        go_wp2
        go_roundw
        case rel => exact ⟨z + 1, by omega, by go_num, by simp, below_alloc hB _⟩
        case measure => simp [intOf]; omega
      · obtain rfl : z = n := by omega
        have bF := BF2.out.then hB
        have x0 := bF.cell 0 _ rfl; have x1 := bF.cell 1 _ rfl; have x2 := bF.cell 2 _ rfl; have x3 := bF.cell 3 _ rfl; have x4 := bF.cell 4 _ rfl
        have hBw := below_then HM2.out.below hB
        simp only [LoanP.zero] at x0 x1 x2 x3 x4
        go_wp2_with ((go_at_call 3; refine (poolRuns_any _).mono ?_; rintro e wr2 ⟨rfl, dr⟩))
        go_ret
        exact ⟨rfl, below_then hBw dr⟩
    · have HF : Hid (findP F.id q = .tuple #[.agg #[.int .i64 F.id, .int .i64 F.bal, .int .i64 F.lost, .int .i64 F.late, .bool F.over], .bool true]) := hF
      have HI : Hid (inP q F F.id = true) := inP_ok (Or.inr ⟨rfl, hmem, rfl⟩)
      clear hF hmem
      go_upto_region 46 with (go_at_call 21; refine (find_any g q _ _ HM.out.pool (by omega)).mono ?_; rintro e w20 ⟨rfl, d20⟩; rw [HF.out])
      refine wp_letter (fun wx => ∃ gf, w20.heap.size = gf ∧ Blk wx gf 58 (LoanP.f F) ∧ OvM w wx g q) ⟨_, rfl, Blk.fresh _ _ (LoanP.f F), (HM.out.then d20).alloc _⟩ ?_
      clear d20 HM
      rintro W20 ⟨gf, egf, bf, hM⟩
      rw [egf]
      clear egf
      have HM : Hid (OvM w W20 g q) := hM
      have BF : Hid (Blk W20 gf 58 (LoanP.f F)) := bf
      clear hM bf
      go_wp2_with (go_at_call 19; refine (loans_any g q _ HM.out.pool (by omega)).mono ?_; rintro e w21 ⟨va, rfl, oa, d21⟩; have LQ : Hid (Lies 5 LoanP.f w21 va q) := own_lies LoanP.len oa rfl; obtain ⟨aa, ca, rfl⟩ := own_slice oa)
      have HM2 : Hid (OvM w w21 g q) := HM.out.then d21
      have BF2 : Hid (Blk w21 gf 58 (LoanP.f F)) := BF.out.then d21
      clear HM BF oa d21
      obtain ⟨n, en⟩ : ∃ n, q.length = n := ⟨_, rfl⟩
      have HN : Hid (q.length = n) := en
      rw [en] at LQ hql ⊢
      have hn64 : n ≤ 9223372036854775807 := by omega
      clear en
      go_loopw [30, 202] (fun bb i wx => ∃ z : Nat, z ≤ n ∧ i = .int .i64 z ∧ bb = .bool (inP (q.take z) F F.id) ∧ Below w21.heap.size w21 wx) (fun _ i _ => n - (intOf i).toNat)
      case atStart => exact ⟨0, Nat.zero_le _, rfl, rfl, Below.refl _ _⟩
      case round =>
      obtain ⟨z, hzm, rfl, rfl, hB⟩ := hrel
      by_cases hlz : z < n
      · obtain ⟨yb, yo, y, rfl, hy, hyq, y0, y1, y2, y3, y4⟩ := LQ.out.loan z hlz
        replace y0 := cell_keep hB y0
        replace y1 := cell_keep hB y1
        replace y2 := cell_keep hB y2
        replace y3 := cell_keep hB y3
        replace y4 := cell_keep hB y4
        have x0 := (BF2.out.then hB).cell 0 _ rfl; have x1 := (BF2.out.then hB).cell 1 _ rfl; have x2 := (BF2.out.then hB).cell 2 _ rfl; have x3 := (BF2.out.then hB).cell 3 _ rfl; have x4 := (BF2.out.then hB).cell 4 _ rfl
        have hgf := (BF2.out.then hB).lt
        have HA : Hid (inP (q.take (z + 1)) F F.id = (inP (q.take z) F F.id || ((y.id == F.id) && sameP y F))) := inP_next hy
        clear hy
        cases hN : inP (q.take z) F F.id with
        | true =>
          have HN1 : Hid (inP (q.take (z + 1)) F F.id = true) := by show _ = _; rw [HA.out, hN]; rfl
          go_wp2
          go_roundw
          case rel => exact ⟨z + 1, by omega, by go_num, by rw [HN1.out], below_alloc hB _⟩
          case measure => simp [intOf]; omega
        | false =>
          have HN1 : Hid (inP (q.take (z + 1)) F F.id = ((y.id == F.id) && sameP y F)) := by show _ = _; rw [HA.out, hN]; rfl
          by_cases hyi : y.id = F.id
          · go_wp2
            all_goals
              go_roundw
              case rel => exact ⟨z + 1, by omega, by go_num, by rw [HN1.out]; simp [sameP, *], below_alloc hB _⟩
              case measure => simp [intOf]; omega
          · go_wp2
            go_roundw
            case rel => exact ⟨z + 1, by omega, by go_num, by rw [HN1.out]; simp [hyi], below_alloc hB _⟩
            case measure => simp [intOf]; omega
      · obtain rfl : z = n := by omega
        have htk : q.take z = q := by rw [← HN.out]; exact List.take_length
        rw [htk, HI.out]
        have bF := BF2.out.then hB
        have x0 := bF.cell 0 _ rfl; have x1 := bF.cell 1 _ rfl; have x2 := bF.cell 2 _ rfl; have x3 := bF.cell 3 _ rfl; have x4 := bF.cell 4 _ rfl
        have hBw := below_then HM2.out.below hB
        go_wp2_with ((go_at_call 3; refine (poolRuns_any _).mono ?_; rintro e wr2 ⟨rfl, dr⟩))
        go_ret
        exact ⟨rfl, below_then hBw dr⟩
theorem poolKeeps_law (v0 v1 v2 : Value) (w : World) (w0 : Arg w (.slice 1 (.int .i64)) v0) (w1 : Arg w (.slice 6 (.struct (.cons 1 (.slice 1 (.int .i64)) (.cons 1 (.slice 1 (.int .i64)) (.cons 1 (.slice 1 (.int .i64)) (.cons 1 (.slice 1 (.int .i64)) (.cons 1 (.slice 1 (.int .i64)) (.cons 1 (.slice 1 (.int .i64)) .nil)))))))) v1) (w2 : Arg w (.int .i64) v2) :
    Calls Try.prog 5 #[v0, v1, v2] w fun e w' => e = .returned (.bool true) ∧ Below w.heap.size w w' := by
  obtain ⟨zs, hz, _⟩ := arg_ints w0
  obtain ⟨nt, ht⟩ := arg_tapes w1
  obtain ⟨n, rfl, _⟩ := arg_int w2
  exact poolKeeps_any v0 v1 zs nt n w hz ht
end Go.Proofs.Ytoijgognbfifbaa
