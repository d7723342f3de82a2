/- How many of the first so many vectors pass (in plain Lean; nothing of a program). -/
import Derived.Test.YtijpeepdedfhoaaGreatBun01
namespace Go.Proofs.YtijpeepdedfhoaaGreat
/-- how many of the first N pass -/
def cntTo (p n : Nat) (P : List Int → Bool) (N : Nat) : Nat := sumN N fun M => if P (digV p M n) then 1 else 0
theorem cntTo_le (p n : Nat) (P : List Int → Bool) : ∀ N, cntTo p n P N ≤ N
  | 0 => Nat.le_refl _
  | N + 1 => by
    have := cntTo_le p n P N
    show cntTo p n P N + (if P (digV p N n) then 1 else 0) ≤ _
    split <;> omega
theorem cntTo_yes {p n N : Nat} {P : List Int → Bool} (h : P (digV p N n) = true) : cntTo p n P (N + 1) = cntTo p n P N + 1 := by
  show cntTo p n P N + (if P (digV p N n) then 1 else 0) = _
  rw [if_pos h]
theorem cntTo_no {p n N : Nat} {P : List Int → Bool} (h : P (digV p N n) = false) : cntTo p n P (N + 1) = cntTo p n P N := by
  show cntTo p n P N + (if P (digV p N n) then 1 else 0) = _
  rw [if_neg (by rw [h]; simp)]; rfl
theorem cntTo_all {p : Nat} (hp : 0 < p) (n : Nat) (P : List Int → Bool) : cntTo p n P (p ^ n) = cntV p n P := cntV_dig hp n P
end Go.Proofs.YtijpeepdedfhoaaGreat
