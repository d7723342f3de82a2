/- What is made monic, greatest divisors and least multiples: which of them are one. -/
import Derived.Test.YtgeinhlhhlmciaaAwake03
namespace Go.Proofs.Ytgeinhlhhlmciaa
open Go.RowKit

/-- a polynomial, monic -/
structure MonicOf (p : Int) (xs M : List Int) : Prop where
  isp : Pol p M
  nil : xs = [] → M = []
  one : xs ≠ [] → M ≠ [] ∧ lead M = 1 ∧ M.length = xs.length
  eqn : ∃ c d : Int, pol p M = pol p xs * Ser.C p c ∧ pol p xs = pol p M * Ser.C p d
def RetM (p : Int) (xs : List Int) (w : World) (e : Ending) (w' : World) : Prop := ∃ v M, e = .returned (.tuple #[v, .int .i64 0]) ∧ Ints .u64 w' v M ∧ MonicOf p xs M ∧ Ext w w'
theorem pMonic_any (p : Int) (v : Value) (xs : List Int) (w : World) (hp : rightB p = true) (hF : Fld p) (hv : Ints .u64 w v xs) (hx : Pol p xs) (hl : xs.length ≤ 512) :
    Calls Try.prog 18 #[.int .u64 p, v] w (RetM p xs w) := by
  have hp2 := rightB_true hp
  by_cases h0 : xs = []
  · subst h0
    refine (pMonic_nil p v w hp hv).mono ?_
    rintro _ w' ⟨v1, M, rfl, h1, h2, h3, h4⟩
    have hM : M = [] := h2.zero h3
    exact ⟨v1, M, rfl, h1, ⟨h2, fun _ => hM, fun h => absurd rfl h, 0, 0, by rw [hM, pol_nil, Ser.zero_mul], by rw [hM, pol_nil, Ser.zero_mul]⟩, h4⟩
  · refine (pMonic_yes p v xs w hp hv hx h0 hl (hF.unit_lead hx h0)).mono ?_
    rintro _ w' ⟨v1, M, rfl, h1, h2, h3, h4⟩
    have hm := minv_range p (lead xs) hp2.1
    have hli := hF.linv hp2.1 hx h0
    have hmo := monic_of hx h0 h2 h3 hli hm.1 hm.2
    refine ⟨v1, M, rfl, h1, ⟨h2, fun h => absurd h h0, fun _ => hmo, minv p (lead xs), lead xs, h3, ?_⟩, h4⟩
    rw [h3, Ser.mul_assoc, Ser.C_mul, Ser.C_congr (show minv p (lead xs) * lead xs % p = 1 % p by rw [Int.mul_comm, hli]; exact (mod_small (by omega) (by omega)).symm), Ser.C_one, Ser.mul_one]
variable {p : Int}
theorem MonicOf.gcd {xs M : List Int} (h : MonicOf p xs M) : IsGcd p xs xs M := by
  obtain ⟨c, d, e1, e2⟩ := h.eqn
  refine ⟨h.isp, fun h0 => (h.one (fun e => h0 (h.nil e))).2.1, ⟨Ser.C p d, Ser.poly_C d, by rw [Ser.mul_comm, ← e2]⟩, ⟨Ser.C p d, Ser.poly_C d, by rw [Ser.mul_comm, ← e2]⟩, ⟨Ser.C p c, 0, Ser.poly_C c, Ser.poly_zero, by rw [Ser.zero_mul, Ser.add_zero, Ser.mul_comm, ← e1]⟩⟩

/-- a least multiple -/
structure LcmOf (p : Int) (xs ys L : List Int) : Prop where
  isp : Pol p L
  nil : (xs = [] ∨ ys = []) → L = []
  one : xs ≠ [] → ys ≠ [] → L ≠ [] ∧ lead L = 1 ∧ ∃ G c, IsGcd p xs ys G ∧ pol p L * pol p G = Ser.C p c * (pol p xs * pol p ys)
theorem pLcm_any (p : Int) (v u : Value) (xs ys : List Int) (w : World) (hp : rightB p = true) (hF : Fld p) (hv : Ints .u64 w v xs) (hu : Ints .u64 w u ys) (hx : Pol p xs) (hy : Pol p ys) (hl : xs.length ≤ 512 ∧ ys.length ≤ 512) (hl2 : xs.length + ys.length ≤ 513) :
    Calls Try.prog 17 #[.int .u64 p, v, u] w fun e w' => ∃ v L, e = .returned (.tuple #[v, .int .i64 0]) ∧ Ints .u64 w' v L ∧ LcmOf p xs ys L ∧ Ext w w' := by
  refine (pLcm_yes p v u xs ys w hp hF hv hu hx hy hl hl2).mono ?_
  rintro _ w' ⟨v, L, rfl, h1, h2, h3, h4, h5⟩
  exact ⟨v, L, rfl, h1, ⟨h2, h3, h4⟩, h5⟩
theorem LcmOf.gne {A B G : List Int} (h : IsGcd p A B G) (hA : Pol p A) (hB : Pol p B) (a0 : A ≠ []) : G ≠ [] := fun e => a0 ((h.nil hA hB).1 e).1
theorem LcmOf.swap_eq (hF : Fld p) (hp : 2 ≤ p) {xs ys L K : List Int} (hx : Pol p xs) (hy : Pol p ys) (h : LcmOf p xs ys L) (h' : LcmOf p ys xs K) : L = K := by
  by_cases x0 : xs = []
  · rw [h.nil (.inl x0), h'.nil (.inr x0)]
  by_cases y0 : ys = []
  · rw [h.nil (.inr y0), h'.nil (.inl y0)]
  obtain ⟨l0, l1, G, c, g1, e1⟩ := h.one x0 y0
  obtain ⟨k0, k1, G', d, g2, e2⟩ := h'.one y0 x0
  obtain rfl : G' = G := g2.swap.unique hp g1
  exact lcm_unique hF hp h.isp h'.isp g1.isp l0 k0 (LcmOf.gne g1 hx hy x0) l1 k1 e1 (by rw [e2, Ser.mul_comm (pol p ys)])
theorem LcmOf.self (hF : Fld p) (hp : 2 ≤ p) {xs L M : List Int} (h : LcmOf p xs xs L) (hm : MonicOf p xs M) : L = M := by
  by_cases x0 : xs = []
  · rw [h.nil (.inl x0), hm.nil x0]
  obtain ⟨l0, l1, G, c, g1, e1⟩ := h.one x0 x0
  obtain rfl : G = M := g1.unique hp hm.gcd
  obtain ⟨m0, m1, _⟩ := hm.one x0
  obtain ⟨c', d, f1, f2⟩ := hm.eqn
  refine lcm_unique hF hp h.isp hm.isp hm.isp l0 m0 m0 l1 m1 e1 (c2 := c' * c') ?_
  rw [f1, ← Ser.C_mul]
  ac_rfl
theorem pol_one1 : pol p [1] = 1 := by rw [pol_single, Ser.C_one]
theorem LcmOf.unit (hF : Fld p) (hp : 2 ≤ p) {xs L M : List Int} (h : LcmOf p xs [1] L) (hm : MonicOf p xs M) : L = M := by
  by_cases x0 : xs = []
  · rw [h.nil (.inl x0), hm.nil x0]
  obtain ⟨l0, l1, G, c, g1, e1⟩ := h.one x0 (by simp)
  have p1 : Pol p [1] := Pol.one (by omega) (by omega)
  obtain rfl : G = [1] := g1.unique hp (IsGcd.of_dvd p1 rfl (pol_poly xs) (by rw [pol_one1, Ser.mul_one]))
  obtain ⟨m0, m1, _⟩ := hm.one x0
  obtain ⟨c', d, f1, f2⟩ := hm.eqn
  refine lcm_unique hF hp h.isp hm.isp p1 l0 m0 (by simp) l1 m1 e1 (c2 := c') ?_
  rw [f1]
  ac_rfl
theorem gcd_one (hp : 2 ≤ p) (xs : List Int) : IsGcd p xs [1] [1] := IsGcd.of_dvd (Pol.one (by omega) (by omega)) rfl (pol_poly xs) (by rw [pol_one1, Ser.mul_one])
end Go.Proofs.Ytgeinhlhhlmciaa
