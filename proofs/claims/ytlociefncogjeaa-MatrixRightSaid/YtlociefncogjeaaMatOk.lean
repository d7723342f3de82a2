/- What is right stays right: products, thin forms (in plain Lean; nothing of a program). -/
import Derived.Test.YtlociefncogjeaaMxM
import Derived.Test.YtlociefncogjeaaMx4
import Derived.Test.YtlociefncogjeaaMatT
namespace Go.Proofs.Ytlociefncogjeaa
variable {p : Int}
theorem MatOk.mul {m n q : Nat} {xs ys : List Int} (h : MatOk p m n xs) (k : MatOk p n q ys) : MatOk p m q (mulL p m n q xs ys) :=
  ⟨h.hp, mulL_rng (rightB_true h.hp).1 _ _ _ _ _, h.hm, k.hn, mulL_len _ _ _ _ _⟩
theorem spOk_of {m n : Nat} {xs : List Int} (h : MatOk p m n xs) : SpOk p m n (thB xs m n) (thC xs n (m * n)) (thV xs (m * n)) := thin_ok h.hm h.hn h.hl (h.hx.has h.hp)
theorem whole_of {m n : Nat} {xs : List Int} (h : MatOk p m n xs) : wholeL m n (thB xs m n) (thC xs n (m * n)) (thV xs (m * n)) = xs := whole_eq h.hm h.hn h.hl (h.hx.has h.hp)
theorem thV_rng {m n : Nat} {xs : List Int} (h : MatOk p m n xs) : Rng p (thV xs (m * n)) := fun x hx => h.hx x (thV_mem xs _ (by rw [h.hl]; exact Nat.le_refl _) x hx)
theorem MatOk.oneR {m n : Nat} {xs : List Int} (h : MatOk p m n xs) : MatOk p m m (oneL m) := ⟨h.hp, oneL_rng (rightB_true h.hp).1 m, h.hm, h.hm, oneL_len m⟩
theorem MatOk.oneC {m n : Nat} {xs : List Int} (h : MatOk p m n xs) : MatOk p n n (oneL n) := ⟨h.hp, oneL_rng (rightB_true h.hp).1 n, h.hn, h.hn, oneL_len n⟩
theorem rng_of {xs : List Int} (h : U64s xs) (k : hasB p xs = true) : Rng p xs := fun x hx => ⟨(h x hx).1, (hasB_true k).2 x hx⟩
end Go.Proofs.Ytlociefncogjeaa
