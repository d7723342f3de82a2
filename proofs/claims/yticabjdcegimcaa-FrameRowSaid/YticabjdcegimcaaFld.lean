/- Fields: every number but 0 has an inverse. -/
import Derived.Test.YticabjdcegimcaaPolM
namespace Go.Proofs.Yticabjdcegimcaa

/-- every number but 0 has an inverse -/
def Fld (p : Int) : Prop := ∀ a, 0 < a → a < p → unitB p a = true
theorem Fld.unit_lead {p : Int} (h : Fld p) {xs : List Int} (hx : Pol p xs) (h0 : xs ≠ []) : unitB p (lead xs) = true := h _ (hx.lead_range h0).1 (hx.lead_range h0).2

theorem list_ext {xs ys : List Int} (hl : xs.length = ys.length) (h : ∀ j, j < xs.length → xs.getD j 0 = ys.getD j 0) : xs = ys := by
  refine List.ext_getElem hl fun j h1 h2 => ?_
  have := h j h1
  simpa [List.getD, List.getElem?_eq_getElem h1, List.getElem?_eq_getElem h2] using this
end Go.Proofs.Yticabjdcegimcaa
