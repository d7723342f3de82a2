/- Of what a greatest divisor is made, from Euclid's last step back (in plain Lean). -/
import Derived.Test.YtgeinhlhhlmciaaSameM
namespace Go.Proofs.Ytgeinhlhhlmciaa
variable {p : Int}

/-- the two it is made of: from the last quotient back -/
def bz (c : Ser p) (l : List (List Int)) : Ser p × Ser p := l.foldl (fun st q => (st.2, st.1 - pol p q * st.2)) (c, 0)
theorem bz_snoc (c : Ser p) (l : List (List Int)) (q : List Int) : bz c (l ++ [q]) = ((bz c l).2, (bz c l).1 - pol p q * (bz c l).2) := by simp [bz]
theorem bz_rems {R Q : Nat → List Int} {k : Nat} (h : Rems p R Q k) {c : Ser p} (hc : c.low 1) : ∀ j i, i + j = k →
    (bz c ((List.range j).map fun x => Q (k - 1 - x))).1 * pol p (R i) + (bz c ((List.range j).map fun x => Q (k - 1 - x))).2 * pol p (R (i + 1)) = c * pol p (R k) ∧
    (bz c ((List.range j).map fun x => Q (k - 1 - x))).1.low (max 1 (R (i + 1)).length) ∧ (bz c ((List.range j).map fun x => Q (k - 1 - x))).2.low (max 1 (R i).length)
  | 0, i, e => by
    obtain rfl : i = k := by omega
    refine ⟨?_, hc.mono (by omega), Ser.low_zero _⟩
    show c * pol p (R i) + 0 * pol p (R (i + 1)) = _
    rw [Ser.zero_mul, Ser.add_zero]
  | j + 1, i, e => by
    obtain ⟨e1, l1, l2⟩ := bz_rems h hc j (i + 1) (by omega)
    have hi : i < k := by omega
    rw [List.range_succ, List.map_append, List.map_cons, List.map_nil, bz_snoc, show k - 1 - j = i by omega]
    generalize bz c ((List.range j).map fun x => Q (k - 1 - x)) = st at *
    obtain ⟨s, t⟩ := st
    dsimp only at *
    have hd := h.dec i hi
    have hq := h.qln i hi
    refine ⟨?_, l2, ?_⟩
    · rw [h.eqn i hi, ← e1]
      have e2 : s - pol p (Q i) * t + pol p (Q i) * t = s := Ser.sub_add _ _
      conv => rhs; rw [← e2]
      rw [Ser.add_mul, Ser.mul_add]
      ac_rfl
    · have hQt : (pol p (Q i) * t).low (max 1 (R i).length) := by
        by_cases hz : (Q i).length = 0
        · rw [List.eq_nil_of_length_eq_zero hz, pol_nil, Ser.zero_mul]; exact Ser.low_zero _
        · exact ((pol_low (Q i)).mul l2).mono (by omega)
      have hs : s.low (max 1 (R i).length) := by
        refine l1.mono ?_
        by_cases hz : (Q i).length = 0
        · have e3 := h.eqn i hi
          rw [List.eq_nil_of_length_eq_zero hz, pol_nil, Ser.zero_mul, Ser.zero_add] at e3
          rw [(h.isp i (by omega)).inj (h.isp (i + 2) (by omega)) e3]
          exact Nat.le_refl _
        · have : (R (i + 1 + 1)).length = (R (i + 2)).length := rfl
          omega
      exact hs.sub hQt
theorem qs_back (qs : List (Value × List Int)) : (qs.map (·.2)).reverse = (List.range qs.length).map fun x => qAt qs (qs.length - 1 - x) := by
  refine List.ext_getElem (by simp) fun i h1 h2 => ?_
  simp at h1
  simp [qAt, List.getD, show qs.length - 1 - i < qs.length by omega]
end Go.Proofs.Ytgeinhlhhlmciaa
