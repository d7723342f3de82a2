/- What a row that lists the library's table gives a walk; an argument that is a list of proofs. -/
import Derived.Test.YthomeenmcajmdaaDoorCards
import Derived.Test.YthomeenmcajmdaaDoorTie
import Derived.Test.YthomeenmcajmdaaDoorKit
import Derived.Test.YthomeenmcajmdaaDoorPKit
import Derived.Test.YthomeenmcajmdaaDoorMiller
import Derived.Test.YthomeenmcajmdaaDoorOpenSl
import Derived.Deep.Slices
import Derived.Deep.Fields
import Derived.ChangeSame
import Derived.Deep.DeepHandedRow
import Derived.Lib.LaidTab
namespace Go.Proofs.YthomeenmcajmdaaDoor
open Go.RowKit Go.ChangeShapes Go.WideShapes Go.ChangeAt Go.Deep

theorem gTab : Tryd.prog.globalNamed "math/bits.deBruijn64tab" = some 0 := by kernel_rfl
theorem gTabType : (Tryd.prog.globals[0]?).map (·.type) = some 83 := by kernel_rfl
theorem cellsTab : Tryd.prog.cellsOf 83 = 64 := by kernel_rfl
theorem cellsU8 : Tryd.prog.cellsOf 5 = 1 := by kernel_rfl
theorem tab_of {W : World} (h : laidMetH Tryd.prog [("math/bits.deBruijn64tab", Rows.laid_math_bits_deBruijn64tab)] W) : Tab W := by
  have e : (Rows.laid_math_bits_deBruijn64tab (H := Unit)) = Lib.tabData .u8 (Lib.deBruijn64tab.map (fun n : Nat => (n : Int))) := by kernel_rfl
  have h2 : laidMet Tryd.prog [("math/bits.deBruijn64tab", Lib.tabData .u8 (Lib.deBruijn64tab.map (fun n : Nat => (n : Int))))] W := by rw [← e]; exact h
  have t := Lib.tabIs_of_head (rest := []) gTab gTabType Tryd.underlying83 Tryd.underlying5 cellsU8 cellsTab h2
  intro j hj
  have := t.cell gTab j (by simp [Lib.deBruijn64tab]; exact hj)
  rw [this]
  have e2 : ∀ (l : List Nat) (j : Nat), j < l.length → (l.map (fun n : Nat => (n : Int))).getD j 0 = ((l.getD j 0 : Nat) : Int) := by
    intro l j h; simp [List.getD, h]
  rw [e2 _ j (by simp [Lib.deBruijn64tab]; exact hj)]

section
variable {H : Type} {enc : TypeId × Value → H} {W : World} {spare : Nat → Bool} {base0 : Nat}
theorem i64_mk {n : Int} (h : (Lit.int .i64 n).wf = true) : -9223372036854775808 ≤ n ∧ n ≤ 9223372036854775807 := i64_wf h
/-- a cell that reads as a list of parts -/
theorem open_Parts1 {fuel : Nat} {v : Value} {y : DataW H × List MemPlace} (h : DataW.trod enc Tryd.prog W 0 spare true fuel 30 [v] = some y) : ∃ ps : List (Int × Int), Parts W v ps ∧ PartsOk ps := by
  rcases open_slice_fields Tryd.underlying30 Tryd.underlying38 (by kernel_rfl) (by kernel_rfl) h with ⟨hcs, hx⟩ | ⟨a, len, cap, m, D, Pl, hcs, _, hl, hm, hmm, hx, hi⟩
  · simp at hcs
    subst hcs
    exact ⟨[], Parts.nil, fun q hq => by simp at hq⟩
  · simp at hcs
    subst hcs
    have hlm : len ≤ m := by rw [hmm]; split <;> omega
    have key : ∀ i, i < len → ∃ q : Int × Int, W.cell? (a.add (i * 2)) = some (.int .u64 q.1) ∧ W.cell? (a.add (i * 2 + 1)) = some (.int .i64 q.2) ∧ 0 ≤ q.1 ∧ q.1 ≤ 18446744073709551615 ∧ -9223372036854775808 ≤ q.2 ∧ q.2 ≤ 9223372036854775807 := by
      intro i hil
      obtain ⟨ys, n, _, _, _, hf⟩ := hi i (by omega)
      obtain ⟨v0, y0, c0, _, t0⟩ := hf 0 _ rfl
      obtain ⟨v1, y1, c1, _, t1⟩ := hf 1 _ rfl
      obtain ⟨n0, e0, _, w0⟩ := DataW.trod_int Tryd.underlying22 t0
      obtain ⟨n1, e1, _, w1⟩ := DataW.trod_int Tryd.underlying3 t1
      simp at e0 e1
      subst e0; subst e1
      exact ⟨(n0, n1), by simpa using c0, by simpa using c1, (u64_wf w0).1, (u64_wf w0).2, (i64_mk w1).1, (i64_mk w1).2⟩
    classical
    let f : Nat → Int × Int := fun i => if h : i < len then Classical.choose (key i h) else (0, 0)
    have hf : ∀ i, i < len → W.cell? (a.add (i * 2)) = some (.int .u64 (f i).1) ∧ W.cell? (a.add (i * 2 + 1)) = some (.int .i64 (f i).2) ∧ 0 ≤ (f i).1 ∧ (f i).1 ≤ 18446744073709551615 ∧ -9223372036854775808 ≤ (f i).2 ∧ (f i).2 ≤ 9223372036854775807 := by
      intro i hil
      have := Classical.choose_spec (key i hil)
      simpa [f, hil] using this
    have hgd : ∀ j, j < len → ((List.range len).map f).getD j (0, 0) = f j := fun j hj => by simp [List.getD, hj]
    refine ⟨(List.range len).map f, ⟨some a, cap, by simp, by simpa using hl, by unfold maxLen at hm; omega, fun hp => ?_⟩, fun q hq => ?_⟩
    · simp only [List.length_map, List.length_range] at hp
      obtain ⟨b, off, spot⟩ := a
      have hspot : spot = none := by simpa [Addr.add] using World.cell?_spot (hf 0 hp).1
      subst hspot
      refine ⟨b, off, rfl, ?_, fun j hj => ?_⟩
      · have := cell_lt (hf 0 hp).1
        rw [add_plain] at this
        exact this
      · simp only [List.length_map, List.length_range] at hj
        have h1 := (hf j hj).1
        have h2 := (hf j hj).2.1
        rw [add_plain] at h1 h2
        rw [hgd j hj]
        exact ⟨h1, by rw [← h2]; rfl⟩
    · obtain ⟨i, hi', rfl⟩ := List.mem_map.1 hq
      exact (hf i (List.mem_range.1 hi')).2.2
/-- an argument that is a list of proofs -/
theorem open_Proofs {v : Value} {d : DataW H} {ps : List MemPlace} (hval : Value.okWide Tryd.prog W .any base0 24 v) (hd : DataW.Trod enc Tryd.prog W 0 spare true 24 v d ps) :
    ∃ l : List Prf, Proofs W v l ∧ ∀ f ∈ l, f.Ok := by
  obtain ⟨a0, len0, cap0, rfl⟩ := okWide_slice Tryd.underlying24 hval
  obtain ⟨fuel, hf0⟩ := hd
  rcases open_slice_fields Tryd.underlying24 Tryd.underlying34 (by kernel_rfl) (by kernel_rfl) hf0 with ⟨hcs, hx⟩ | ⟨a, len, cap, m, D, Pl, hcs, _, hl, hm, hmm, hx, hi⟩
  · simp [Value.cells] at hcs
    obtain ⟨rfl, rfl, rfl⟩ := hcs
    exact ⟨[], Proofs.nil, fun q hq => by simp at hq⟩
  · simp [Value.cells] at hcs
    obtain ⟨rfl, rfl, rfl⟩ := hcs
    have hlm : len0 ≤ m := by rw [hmm]; split <;> omega
    have key : ∀ i, i < len0 → ∃ q : Prf, W.cell? (a.add (i * 3)) = some (.int .u64 q.num) ∧ W.cell? (a.add (i * 3 + 1)) = some (.int .u64 q.root) ∧ (∃ v', W.cell? (a.add (i * 3 + 2)) = some v' ∧ Parts W v' q.parts) ∧ q.Ok := by
      intro i hil
      obtain ⟨ys, n, _, _, _, hf⟩ := hi i (by omega)
      obtain ⟨v0, y0, c0, _, t0⟩ := hf 0 _ rfl
      obtain ⟨v1, y1, c1, _, t1⟩ := hf 1 _ rfl
      obtain ⟨v2, y2, c2, _, t2⟩ := hf 2 _ rfl
      obtain ⟨n0, e0, _, w0⟩ := DataW.trod_int Tryd.underlying22 t0
      obtain ⟨n1, e1, _, w1⟩ := DataW.trod_int Tryd.underlying22 t1
      simp at e0 e1
      subst e0; subst e1
      obtain ⟨qs, hq1, hq2⟩ := open_Parts1 t2
      exact ⟨⟨n0, n1, qs⟩, by simpa using c0, by simpa using c1, ⟨v2, by simpa using c2, hq1⟩, (u64_wf w0).1, (u64_wf w0).2, (u64_wf w1).1, (u64_wf w1).2, hq2⟩
    classical
    let f : Nat → Prf := fun i => if h : i < len0 then Classical.choose (key i h) else .zero
    have hf : ∀ i, i < len0 → W.cell? (a.add (i * 3)) = some (.int .u64 (f i).num) ∧ W.cell? (a.add (i * 3 + 1)) = some (.int .u64 (f i).root) ∧ (∃ v', W.cell? (a.add (i * 3 + 2)) = some v' ∧ Parts W v' (f i).parts) ∧ (f i).Ok := by
      intro i hil
      have := Classical.choose_spec (key i hil)
      simpa [f, hil] using this
    have hgd : ∀ j, j < len0 → ((List.range len0).map f).getD j .zero = f j := fun j hj => by simp [List.getD, hj]
    refine ⟨(List.range len0).map f, ⟨some a, cap0, by simp, by simpa using hl, by unfold maxLen at hm; omega, fun hp => ?_⟩, fun q hq => ?_⟩
    · simp only [List.length_map, List.length_range] at hp
      obtain ⟨b, off, spot⟩ := a
      have hspot : spot = none := by simpa [Addr.add] using World.cell?_spot (hf 0 hp).1
      subst hspot
      refine ⟨b, off, rfl, ?_, fun j hj => ?_⟩
      · have := cell_lt (hf 0 hp).1
        rw [add_plain] at this
        exact this
      · simp only [List.length_map, List.length_range] at hj
        obtain ⟨h1, h2, ⟨v', h3, h4⟩, h5⟩ := hf j hj
        rw [add_plain] at h1 h2 h3
        rw [hgd j hj]
        exact ⟨h1, by rw [← h2]; rfl, v', by rw [← h3]; rfl, h4⟩
    · obtain ⟨i, hi', rfl⟩ := List.mem_map.1 hq
      exact (hf i (List.mem_range.1 hi')).2.2.2
end

theorem own : ownKnob Tryd.prog.godebug = none := by kernel_rfl
/-- a world for the witness: the settled one, the table holding what its initialiser lays -/
noncomputable def laidWorld (os : Os) : World :=
  { World.holding Tryd.prog os ⟨#[], #[], []⟩ with heap := (World.holding Tryd.prog os ⟨#[], #[], []⟩).heap.modify 0 fun
      | .cells _ t frozen => .cells (Lib.deBruijn64tab.map (fun n : Nat => Value.int .u8 (n : Int))).toArray t frozen
      | o => o }
end Go.Proofs.YthomeenmcajmdaaDoor
