/- Arguments that are claims (matrices taken apart). -/
import Derived.Test.YtnfnommiabalfaaOpenMat
import Derived.Test.YtnfnommiabalfaaOpenSl
import Derived.Test.YtnfnommiabalfaaBun16
import Derived.Lib.SmallJoins
import Derived.Deep.Fields
namespace Go.Proofs.Ytnfnommiabalfaa
open Go.RowKit Go.ChangeShapes Go.WideShapes Go.ChangeAt Go.Deep Go.Joins
section
variable {H : Type} {enc : TypeId × Value → H} {W : World} {base : Nat} {spare : Nat → Bool}
set_option maxRecDepth 100000 in
/-- a field that is rows of numbers -/
theorem trod_UsL {v : Value} {y : DataW H × List MemPlace} {n : Nat} (h : DataW.trod enc Try.prog W 0 spare true n 27 [v] = some y) :
    ∃ ls : List (List Int), UsL W v ls ∧ ∀ l ∈ ls, ∀ x ∈ l, (Lit.int .u64 x).wf = true := by
  rcases open_slice Try.underlying27 h with ⟨hcs, _⟩ | ⟨a, len, cap, m, n', D, Pl, hcs, _, hl, hm, hmm, _, hi⟩
  · obtain rfl : v = .slice none 0 0 := by simpa using hcs
    exact ⟨[], UsL.nil, by simp⟩
  · obtain rfl : v = .slice (some a) len cap := by simpa using hcs
    unfold maxLen at hm
    have hlm : len ≤ m := by rw [hmm]; split <;> omega
    have hone : Try.prog.cellsOf 23 = 1 := by kernel_rfl
    have key : ∀ i, i < len → ∃ q : List Int, (∃ u, W.cell? (a.add i) = some u ∧ Ints .u64 W u q) ∧ ∀ x ∈ q, (Lit.int .u64 x).wf = true := by
      intro i hil
      obtain ⟨cs', hc, ht⟩ := hi i (by omega)
      rw [hone, Nat.mul_one] at hc
      obtain ⟨_, hlc, hat⟩ := World.cells?_some hc
      match cs', hlc with
      | [u], _ =>
        obtain ⟨q, iq, wq⟩ := trod_Ints Try.underlying23 Try.underlying22 (by kernel_rfl) ht
        refine ⟨q, ⟨u, ?_, iq⟩, wq⟩
        have := hat 0 (by omega)
        simpa [Addr.add] using this
    classical
    let f : Nat → List Int := fun i => if h : i < len then Classical.choose (key i h) else []
    have hf : ∀ i, i < len → (∃ u, W.cell? (a.add i) = some u ∧ Ints .u64 W u (f i)) ∧ ∀ x ∈ f i, (Lit.int .u64 x).wf = true := by
      intro i hil
      have := Classical.choose_spec (key i hil)
      simpa only [f, hil, dite_true] using this
    have hgd : ∀ j, j < len → ((List.range len).map f).getD j [] = f j := fun j hj => by simp [List.getD, hj]
    refine ⟨(List.range len).map f, ⟨some a, cap, by simp, by simpa using hl, by omega, fun hp => ?_⟩, fun q hq => ?_⟩
    · simp only [List.length_map, List.length_range] at hp
      obtain ⟨b, off, spot⟩ := a
      obtain ⟨u0, c0, _⟩ := (hf 0 hp).1
      have hspot : spot = none := by simpa [Addr.add] using World.cell?_spot c0
      subst hspot
      refine ⟨b, off, rfl, ?_, fun j hj => ?_⟩
      · have := cell_lt c0
        rw [add_plain] at this
        exact this
      · simp only [List.length_map, List.length_range] at hj
        obtain ⟨u, c, iu⟩ := (hf j hj).1
        rw [add_plain] at c
        rw [hgd j hj]
        exact ⟨u, c, iu⟩
    · obtain ⟨i, hi', rfl⟩ := List.mem_map.1 hq
      exact (hf i (List.mem_range.1 hi')).2
set_option maxRecDepth 100000 in
theorem open_Cup {v : Value} {d : DataW H} {ps : List MemPlace} (hval : Value.okWide Try.prog W .any base 29 v) (hd : DataW.Trod enc Try.prog W 0 spare true 29 v d ps) :
    ∃ (rv kv cv uv : Value) (R K : List Int) (C U : List (List Int)), v = .agg #[rv, kv, cv, uv] ∧ ClmR W rv kv cv uv R K C U ∧ (∀ x ∈ R, (Lit.int .i64 x).wf = true) ∧ (∀ x ∈ K, (Lit.int .i64 x).wf = true) ∧ (∀ l ∈ C, ∀ x ∈ l, (Lit.int .u64 x).wf = true) ∧ (∀ l ∈ U, ∀ x ∈ l, (Lit.int .u64 x).wf = true) := by
  obtain ⟨l, n, rfl, hl, hf⟩ := open_fields Try.underlying29 (by kernel_rfl) (by kernel_rfl) hval hd
  match l, hl with
  | [v0, v1, v2, v3], _ =>
    obtain ⟨y0, h0⟩ := hf 0 _ v0 rfl rfl
    obtain ⟨y1, h1⟩ := hf 1 _ v1 rfl rfl
    obtain ⟨y2, h2⟩ := hf 2 _ v2 rfl rfl
    obtain ⟨y3, h3⟩ := hf 3 _ v3 rfl rfl
    obtain ⟨R, iR, wR⟩ := trod_Ints Try.underlying26 Try.underlying3 (by kernel_rfl) h0
    obtain ⟨K, iK, wK⟩ := trod_Ints Try.underlying26 Try.underlying3 (by kernel_rfl) h1
    obtain ⟨C, iC, wC⟩ := trod_UsL h2
    obtain ⟨U, iU, wU⟩ := trod_UsL h3
    exact ⟨v0, v1, v2, v3, R, K, C, U, rfl, ⟨iR, iK, iC, iU⟩, wR, wK, wC, wU⟩
end
end Go.Proofs.Ytnfnommiabalfaa
