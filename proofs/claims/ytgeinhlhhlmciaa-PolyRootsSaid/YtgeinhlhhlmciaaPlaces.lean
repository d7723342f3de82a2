/- A polynomial's number at a place is its rest by x less the place (in plain Lean). -/
import Derived.Test.YtgeinhlhhlmciaaAwake03
namespace Go.Proofs.Ytgeinhlhhlmciaa
open Go.RowKit
variable {p : Int}

theorem Ser.C_add (c d : Int) : Ser.C p c + Ser.C p d = Ser.C p (c + d) := Ser.ext_ fun k => by
  rw [Ser.add_co, Ser.C_co, Ser.C_co, Ser.C_co]
  split
  · rw [ma_l, ma_r]
  · simp
theorem Ser.C_inj {c d : Int} (h : Ser.C p c = Ser.C p d) : c % p = d % p := by
  have := congrArg (fun s : Ser p => s.co 0) h
  simpa [Ser.C_co] using this
theorem pol_cons (c : Int) (cs : List Int) : pol p (c :: cs) = Ser.C p c + Ser.mono p 1 1 * pol p cs := Ser.ext_ fun k => by
  rw [Ser.add_co, Ser.C_co, Ser.mono_mul_co, pol_co]
  cases k with
  | zero => simp
  | succ k =>
    rw [if_neg (by omega), if_pos (by omega), Int.one_mul, Int.zero_add, Nat.add_sub_cancel, (pol p cs).ok, (pol p cs).ok, pol_co]
    simp
/-- x less a place -/
theorem lin_eq (x : Int) : pol p [(0 - x) % p, 1] + Ser.C p x = Ser.mono p 1 1 := Ser.ext_ fun k => by
  rw [Ser.add_co, Ser.C_co, Ser.mono_co, pol_co]
  match k with
  | 0 => simp; rw [Int.add_comm, ← Int.sub_eq_add_neg, Int.sub_self, Int.zero_emod]
  | 1 => simp
  | k + 2 => simp
theorem lin_pol (hp : 2 ≤ p) (x : Int) : Pol p [(0 - x) % p, 1] := ⟨fun y hy => by
  have := mod_range (0 - x) hp
  simp at hy
  rcases hy with rfl | rfl
  · simpa using this
  · omega, fun _ => by simp⟩
theorem lin_unit (hp : 2 ≤ p) (x : Int) : unitB p (lead [(0 - x) % p, 1]) = true := unit_of (x := 1) (by show (1 : Int) * 1 % p = 1; exact mod_small (by omega) (by omega))
theorem hor_rem (x : Int) : ∀ xs : List Int, ∃ q : Ser p, q.poly ∧ pol p xs = q * pol p [(0 - x) % p, 1] + Ser.C p (hor p x xs.reverse)
  | [] => ⟨0, Ser.poly_zero, by rw [pol_nil, Ser.zero_mul, Ser.zero_add]; exact Ser.C_zero.symm⟩
  | c :: cs => by
    obtain ⟨q, hq, e⟩ := hor_rem x cs
    have hm : (Ser.mono p 1 1).poly := ⟨2, fun k hk => by rw [Ser.mono_co, if_neg (by omega)]⟩
    refine ⟨Ser.mono p 1 1 * q + Ser.C p (hor p x cs.reverse), (hm.mul hq).add (Ser.poly_C _), ?_⟩
    rw [pol_cons, e, List.reverse_cons, hor_snoc]
    have h1 : Ser.mono p 1 1 * Ser.C p (hor p x cs.reverse) = pol p [(0 - x) % p, 1] * Ser.C p (hor p x cs.reverse) + Ser.C p (hor p x cs.reverse * x) := by
      conv => lhs; rw [← lin_eq x]
      rw [Ser.add_mul, Ser.C_mul, Int.mul_comm x]
    have h2 : Ser.C p ((hor p x cs.reverse * x + c) % p) = Ser.C p (hor p x cs.reverse * x) + Ser.C p c := by
      rw [Ser.C_add]; exact Ser.C_congr (Int.emod_emod_of_dvd _ (Int.dvd_refl _))
    rw [Ser.mul_add, h1, h2, Ser.add_mul]
    ac_rfl
theorem rem_unique (hp : 2 ≤ p) (x : Int) {xs : List Int} {q : Ser p} {r : Int} (hq : q.poly) (h : pol p xs = q * pol p [(0 - x) % p, 1] + Ser.C p r) : hor p x xs.reverse = r % p := by
  obtain ⟨q', hq', e⟩ := hor_rem (p := p) x xs
  have hl := lin_pol hp x
  have := pol_div_unique hl (by simp) (i := 1) (by show (1 : Int) * 1 % p = 1; exact mod_small (by omega) (by omega)) hq' hq (Ser.low_C _) (Ser.low_C _) (by rw [← e, ← h])
  have h2 := Ser.C_inj this.2
  have hr := hor_range hp x xs.reverse
  rw [mod_small hr.1 hr.2] at h2
  exact h2
theorem hor_add (hp : 2 ≤ p) (x : Int) {xs ys zs : List Int} (h : pol p zs = pol p xs + pol p ys) : (hor p x xs.reverse + hor p x ys.reverse) % p = hor p x zs.reverse := by
  obtain ⟨q, hq, e⟩ := hor_rem (p := p) x xs
  obtain ⟨q', hq', e'⟩ := hor_rem (p := p) x ys
  refine (rem_unique hp x (hq.add hq') ?_).symm
  rw [h, e, e', ← Ser.C_add, Ser.add_mul]
  ac_rfl
theorem hor_mul (hp : 2 ≤ p) (x : Int) {xs ys zs : List Int} (h : pol p zs = pol p xs * pol p ys) : hor p x xs.reverse * hor p x ys.reverse % p = hor p x zs.reverse := by
  obtain ⟨q, hq, e⟩ := hor_rem (p := p) x xs
  obtain ⟨q', hq', e'⟩ := hor_rem (p := p) x ys
  refine (rem_unique hp x (q := q * (q' * pol p [(0 - x) % p, 1] + Ser.C p (hor p x ys.reverse)) + Ser.C p (hor p x xs.reverse) * q') ((hq.mul ((hq'.mul (pol_poly _)).add (Ser.poly_C _))).add ((Ser.poly_C _).mul hq')) ?_).symm
  rw [h, e, e', ← Ser.C_mul]
  generalize pol p [(0 - x) % p, 1] = L
  generalize Ser.C p (hor p x xs.reverse) = u
  generalize Ser.C p (hor p x ys.reverse) = v
  simp only [Ser.add_mul, Ser.mul_add]
  ac_rfl
/-- the rest by x less a place -/
theorem rest_at (hp : 2 ≤ p) (x : Int) {xs rs : List Int} {q : Ser p} (hq : q.poly) (hr : Pol p rs) (hl : rs.length < 2) (h : pol p xs = q * pol p [(0 - x) % p, 1] + pol p rs) :
    (hor p x xs.reverse = 0 → rs = []) ∧ (hor p x xs.reverse ≠ 0 → rs = [hor p x xs.reverse]) := by
  have e : pol p rs = Ser.C p (rs.getD 0 0) := Ser.ext_ fun k => by
    rw [Ser.C_co, pol_co]
    cases k with
    | zero => rfl
    | succ k => rw [getD_over (by omega)]; simp
  rw [e] at h
  have h1 := rem_unique hp x hq h
  have hh := hr.rng.getD hp 0
  rw [mod_small hh.1 hh.2] at h1
  refine ⟨fun h0 => ?_, fun h0 => ?_⟩
  · refine hr.zero ?_
    rw [e, ← h1, h0, Ser.C_zero]
  · match rs, hl with
    | [], _ => rw [h1] at h0; simp at h0
    | [r], _ => rw [h1]; rfl
theorem pEval_as (p x y : Int) (v : Value) (xs : List Int) (w : World) (hp : rightB p = true) (hv : Ints .u64 w v xs) (hx : Pol p xs) (hl : xs.length ≤ 512) (hx0 : 0 ≤ x) (hx1 : x < p) (h : hor p x xs.reverse = y) :
    Calls Try.prog 19 #[.int .u64 p, v, .int .u64 x] w (Ret (.tuple #[.int .u64 y, .int .i64 0]) w) := h ▸ pEval_yes p x v xs w hp hv hx hl hx0 hx1
end Go.Proofs.Ytgeinhlhhlmciaa
