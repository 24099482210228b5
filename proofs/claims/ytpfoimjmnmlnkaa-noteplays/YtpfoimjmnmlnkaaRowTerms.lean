/-
  Structs of numbers as they come in: one by itself, and a slice of structs of three.
-/
import Derived.Test.YtpfoimjmnmlnkaaBase
import Derived.OpenShut
import Derived.Deep.SlicePairs
namespace Go.Proofs.Ytpfoimjmnmlnkaa
open Go.RowKit Go.ChangeShapes Go.WideShapes

section
variable {H : Type} {enc : TypeId × Value → H} {P : Program} {w : World} {base : Nat} {spare : Nat → Bool} {held' : Bool}

theorem ints_list (cs : List Value) (h : ∀ v ∈ cs, ∃ z, v = Value.int .i64 z ∧ (Lit.int .i64 z).wf = true) : ∃ zs : List Int, cs = zs.map (Value.int .i64) ∧ ∀ z ∈ zs, (Lit.int .i64 z).wf = true := by
  induction cs with
  | nil => exact ⟨[], rfl, by simp⟩
  | cons v r ih =>
    obtain ⟨z, rfl, hz⟩ := h v (by simp)
    obtain ⟨zs, rfl, hzs⟩ := ih fun u hu => h u (by simp [hu])
    exact ⟨z :: zs, rfl, by simpa using ⟨hz, hzs⟩⟩

/-- A struct whose fields are numbers, each one cell: its cells are numbers. -/
theorem flat_ints {t : TypeId} {fs : Array Field} {fuel : Nat} {cs : List Value} {x : DataW H × List MemPlace} (ht : P.underlying t = some (.struct fs)) (ce : P.cellsOf t = fs.size)
    (hfs : ∀ (i : Nat) (f : Field), fs[i]? = some f → f.offset = i ∧ P.cellsOf f.type = 1 ∧ P.underlying f.type = some (.int .i64)) (h : DataW.trod enc P w base spare held' fuel t cs = some x) :
    ∃ zs : List Int, zs.length = fs.size ∧ cs = zs.map (Value.int .i64) ∧ ∀ z ∈ zs, (Lit.int .i64 z).wf = true := by
  obtain ⟨xs, n, _, _, hl, hx, hf⟩ := DataW.trod_struct ht h
  rw [ce] at hl
  obtain ⟨zs, rfl, hz⟩ := ints_list cs fun v hv => by
    obtain ⟨i, hi, rfl⟩ := List.getElem_of_mem hv
    obtain ⟨o, c, u⟩ := hfs i fs[i] (by simp [← hl, hi])
    have g := hf i fs[i] (by simp [← hl, hi])
    rw [o, c, List.getElem?_eq_getElem (by omega)] at g
    obtain ⟨y, f0, _, hw⟩ := DataW.trod_int u g
    have e : (cs.drop i).take 1 = [cs[i]] := by rw [List.drop_eq_getElem_cons hi]; rfl
    rw [e] at f0
    simp only [List.cons.injEq, and_true] at f0
    exact ⟨y, f0, hw⟩
  exact ⟨zs, by simpa using hl, rfl, hz⟩

/-- A struct of three numbers that is handed in. -/
theorem open_three {t : TypeId} {fs : Array Field} {v : Value} {r : Reach} {b0 : Nat} {d : DataW H} {ps : List MemPlace} (ht : P.underlying t = some (.struct fs)) (ce : P.cellsOf t = fs.size) (c3 : fs.size = 3)
    (hfs : ∀ (i : Nat) (f : Field), fs[i]? = some f → f.offset = i ∧ P.cellsOf f.type = 1 ∧ P.underlying f.type = some (.int .i64)) (hval : Value.okWide P w r b0 t v) (hd : DataW.Trod enc P w base spare held' t v d ps) :
    ∃ a b c : Int, v = .agg #[.int .i64 a, .int .i64 b, .int .i64 c] ∧ (Lit.int .i64 a).wf = true ∧ (Lit.int .i64 b).wf = true ∧ (Lit.int .i64 c).wf = true := by
  simp only [Value.okWide, ht] at hval
  obtain ⟨cs, rfl, _, _⟩ := hval
  obtain ⟨fuel, hf⟩ := hd
  obtain ⟨zs, hl, hz, hw⟩ := flat_ints ht ce hfs hf
  rw [c3] at hl
  match zs, hl with
  | [a, b, c], _ =>
    refine ⟨a, b, c, ?_, hw a (by simp), hw b (by simp), hw c (by simp)⟩
    simp only [Value.cells] at hz
    cases cs
    simp only [List.map_cons, List.map_nil] at hz
    subst hz
    rfl
end

/-- A slice of threes of numbers that came in. -/
def RowT (w : World) (a : Option Addr) (len : Nat) : Prop :=
  len ≤ maxLen ∧ ∀ i, i < len → ∃ b off x y z, a = some ⟨b, off, none⟩ ∧ w.cell? ⟨b, off + i * 3, none⟩ = some (.int .i64 x) ∧ w.cell? ⟨b, off + i * 3 + 1, none⟩ = some (.int .i64 y) ∧ w.cell? ⟨b, off + i * 3 + 2, none⟩ = some (.int .i64 z)

theorem open_slice_three {H : Type} {enc : TypeId × Value → H} {P : Program} {w : World} {base : Nat} {held' : Bool} {t e : TypeId} {fs : Array Field} {a : Option Addr} {len cap : Nat} {d : DataW H} {ps : List MemPlace} (ht : P.underlying t = some (.slice e)) (he : P.underlying e = some (.struct fs)) (ce : P.cellsOf e = fs.size) (c3 : fs.size = 3)
    (hfs : ∀ (i : Nat) (f : Field), fs[i]? = some f → f.offset = i ∧ P.cellsOf f.type = 1 ∧ P.underlying f.type = some (.int .i64)) (hd : DataW.Trod enc P w base (fun _ => true) held' t (.slice a len cap) d ps) : RowT w a len := by
  obtain ⟨fuel, hf⟩ := hd
  rcases Go.Deep.open_slice ht hf with ⟨hcs, _⟩ | ⟨x, l, c, m, n, D, Pl, hcs, _, hl, hm, hmm, _, hall⟩
  · simp [Value.cells] at hcs
    obtain ⟨rfl, rfl, rfl⟩ := hcs
    exact ⟨Nat.zero_le _, fun _ hi => absurd hi (Nat.not_lt_zero _)⟩
  · simp [Value.cells] at hcs
    obtain ⟨rfl, rfl, rfl⟩ := hcs
    simp only [if_true] at hmm
    subst hmm
    have each : ∀ i, i < len → ∃ p q r, w.cell? (x.add (i * 3)) = some (.int .i64 p) ∧ w.cell? (x.add (i * 3 + 1)) = some (.int .i64 q) ∧ w.cell? (x.add (i * 3 + 2)) = some (.int .i64 r) := fun i hi => by
      obtain ⟨cs', h1, h2⟩ := hall i (Nat.lt_of_lt_of_le hi hl)
      rw [ce, c3] at h1
      obtain ⟨_, _, hc⟩ := World.cells?_some h1
      obtain ⟨zs, hzl, rfl, _⟩ := flat_ints he ce hfs h2
      rw [c3] at hzl
      match zs, hzl with
      | [p, q, r], _ =>
        have e0 := hc 0 (by omega)
        have e1 := hc 1 (by omega)
        have e2 := hc 2 (by omega)
        rw [Go.Deep.add_add] at e0 e1 e2
        exact ⟨p, q, r, by simpa using e0, by simpa using e1, by simpa using e2⟩
    refine ⟨Nat.le_trans hl hm, fun i hi => ?_⟩
    obtain ⟨b, off, spot⟩ := x
    obtain ⟨p0, _, _, f0, _⟩ := each 0 (by omega)
    have hspot : spot = Option.none := by simpa [Addr.add] using World.cell?_spot f0
    subst hspot
    obtain ⟨p, q, r, e0, e1, e2⟩ := each i hi
    rw [Go.WideShapes.add_plain] at e0 e1 e2
    exact ⟨b, off, p, q, r, rfl, e0, by rw [Nat.add_assoc]; exact e1, by rw [Nat.add_assoc]; exact e2⟩
end Go.Proofs.Ytpfoimjmnmlnkaa
