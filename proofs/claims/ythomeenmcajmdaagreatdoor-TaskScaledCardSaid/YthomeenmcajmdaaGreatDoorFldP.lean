import Derived.Test.YthomeenmcajmdaaGreatDoorBun05
import Derived.Test.YthomeenmcajmdaaGreatDoorBun13
import Derived.Test.YthomeenmcajmdaaGreatDoorBun03
namespace Go.Proofs.YthomeenmcajmdaaGreatDoor
open Go.RowKit
theorem fld_is {p : Int} (h : IsP p) : Fld p := fun a h0 ha => by
  simp only [unitB, decide_eq_true_eq]
  obtain ⟨n, rfl⟩ := Int.eq_ofNat_of_zero_le (show 0 ≤ p by have := h.1; omega)
  obtain ⟨b, rfl⟩ := Int.eq_ofNat_of_zero_le (show 0 ≤ a by omega)
  show Nat.gcd n b = 1
  apply Classical.byContradiction
  intro hg
  obtain ⟨g, hgd⟩ : ∃ g, Nat.gcd n b = g := ⟨_, rfl⟩
  rw [hgd] at hg
  have d1 : g ∣ n := hgd ▸ Nat.gcd_dvd_left n b
  have d2 : g ∣ b := hgd ▸ Nat.gcd_dvd_right n b
  have hgb := Nat.le_of_dvd (by omega) d2
  have hn2 := h.1
  have hg0 : g ≠ 0 := fun e => by rw [e] at d1; have := Nat.eq_zero_of_zero_dvd d1; omega
  obtain ⟨k, hk⟩ := d1
  have hk2 : 2 ≤ k := by
    rcases Nat.lt_or_ge k 2 with h1 | h1
    · have : k = 0 ∨ k = 1 := by omega
      rcases this with rfl | rfl
      · omega
      · omega
    · exact h1
  rcases Nat.le_total g k with hgk | hgk
  · refine h.2 (g : Int) (by omega) ?_ ?_
    · have := Nat.mul_le_mul_left g hgk
      rw [← hk] at this
      exact_mod_cast this
    · rw [hk]
      exact_mod_cast Nat.mul_mod_right g k
  · refine h.2 (k : Int) (by omega) ?_ ?_
    · have := Nat.mul_le_mul_right k hgk
      rw [← hk] at this
      exact_mod_cast this
    · rw [hk]
      exact_mod_cast Nat.mul_mod_left g k
end Go.Proofs.YthomeenmcajmdaaGreatDoor
