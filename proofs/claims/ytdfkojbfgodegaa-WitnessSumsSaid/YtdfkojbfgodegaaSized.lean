/- Arguments that are slices of numbers, with the bound that the form itself lays on them. -/
import Derived.Test.YtdfkojbfgodegaaBun04
import Derived.SizedLaws
namespace Go.Proofs.Ytdfkojbfgodegaa
open Go.RowKit Go.ChangeShapes Go.WideShapes Go.ChangeAt

theorem lits_len {H : Type} {k : IntKind} (zs : List Int) : (lits (H := H) k zs).length = zs.length := by simp [lits]
/-- an argument that is a slice of integers: it weighs no more than the form lets in -/
theorem open_IntsZ {H : Type} {enc : TypeId × Value → H} {P : Program} {W : World} {spare : Nat → Bool} {base : Nat} {t e : TypeId} {k : IntKind} {v : Value} {d : DataW H} {ps : List MemPlace}
    (ht : P.underlying t = some (.slice e)) (he : P.underlying e = some (.int k)) (hc : P.cellsOf e = 1) (hb : P.bytesOf e = 8)
    (hval : Value.okWide P W .any base t v) (hd : DataW.Trod enc P W 0 spare true t v d ps) :
    ∃ xs : List Int, Ints k W v xs ∧ (∀ x ∈ xs, (Lit.int k x).wf = true) ∧
      ∀ (ts : List TypeId) (ds : List (DataW H)) (j : Nat), (DataW.weightsEach P ts ds).all (· ≤ reachBytes) = true → ts[j]? = some t → ds[j]? = some d → xs.length * 8 ≤ 140737488351232 := by
  obtain ⟨a0, len, cap, rfl⟩ := okWide_slice ht hval
  obtain ⟨fuel, hf⟩ := hd
  rcases open_ints ht he hc hf with ⟨hcs, hx⟩ | ⟨a, len', cap', zs, hcs, _, hl, hm, hz, hx, hcell, hwz⟩
  · simp [Value.cells] at hcs
    obtain ⟨rfl, rfl, rfl⟩ := hcs
    exact ⟨[], ⟨none, 0, rfl, by simp, by omega, by simp⟩, by simp, fun _ _ _ _ _ _ => by simp⟩
  · simp [Value.cells] at hcs
    obtain ⟨rfl, rfl, rfl⟩ := hcs
    unfold maxLen at hm
    have hlz : len ≤ zs.length := by rw [hz]; split <;> omega
    have hlen : (zs.take len).length = len := by simp; omega
    refine ⟨zs.take len, ⟨some a, cap, by rw [hlen], by omega, by omega, fun hp => ?_⟩, fun x hx => hwz x (List.mem_of_mem_take hx), fun ts ds j hw h1 h2 => ?_⟩
    · obtain ⟨b, off, spot⟩ := a
      have hspot : spot = none := by simpa [Addr.add] using World.cell?_spot (hcell 0 (by omega))
      subst hspot
      refine ⟨b, off, rfl, ?_, fun j hj => ?_⟩
      · have h0 := hcell 0 (by omega)
        exact cell_lt h0
      · have := hcell j (by omega)
        rw [add_plain] at this
        rw [this]
        simp [List.getD, show j < len by omega]
    · have e := (Prod.mk.inj hx).1
      rw [e] at h2
      have := sized_slice hw h1 h2 ht
      rw [hb, lits_len, lits_len] at this
      unfold reachBytes at this
      simp only [List.length_take, List.length_drop] at this ⊢
      omega
/-- numbers that lie at a slice's begin -/
def At0 (w : World) (a : Option Addr) (n : Nat) (x : List Int) : Prop := 0 < n → ∃ b off, a = some ⟨b, off, none⟩ ∧ b < w.heap.size ∧ ∀ j, j < n → w.cell? ⟨b, off + j, none⟩ = some (.int .u64 (x.getD j 0))
theorem at0_of {w : World} {v : Value} {x : List Int} {n : Nat} (h : Ints .u64 w v x) (hl : x.length = n) : ∃ a cap, v = .slice a n cap ∧ At0 w a n x := by
  obtain ⟨a, cap, rfl, _, _, h3⟩ := h
  subst hl
  exact ⟨a, cap, rfl, h3⟩
/-- a row of the call's own is a slice -/
theorem own_slice1 {w : World} {base n : Nat} {e : TypeId} {v : Value} {xs : List Value} (h : w.ownsRow base e 1 v n xs) : ∃ a cap, v = .slice a n cap := by
  obtain ⟨_, ⟨rfl, h1⟩ | ⟨g, cap, cur, rfl, _⟩⟩ := h
  · obtain rfl : n = 0 := by simpa using h1
    exact ⟨none, 0, rfl⟩
  · exact ⟨_, cap, rfl⟩
end Go.Proofs.Ytdfkojbfgodegaa
