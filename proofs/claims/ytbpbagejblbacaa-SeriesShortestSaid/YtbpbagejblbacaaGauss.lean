/- Equations modulo a prime, taken to steps: who solves them, and whether anyone does (in plain Lean; nothing of a program). -/
import Derived.Test.YtbpbagejblbacaaFld
namespace Go.Proofs.Ytbpbagejblbacaa
variable {p : Int}

/-- x solves a row: n numbers, and what is asked for -/
def Sol (p : Int) (n : Nat) (r x : Nat → Int) : Prop := (sm n fun k => r k * x k) % p = r n % p
theorem Sol.congr {n : Nat} {r r' x : Nat → Int} (h : ∀ k, k ≤ n → r k = r' k) : Sol p n r x ↔ Sol p n r' x := by
  unfold Sol
  rw [sm_congr (f := fun k => r k * x k) (g := fun k => r' k * x k) fun i hi => by rw [h i (by omega)], h n (Nat.le_refl _)]
theorem sm_sub (f g : Nat → Int) (n : Nat) : sm n (fun i => f i - g i) = sm n f - sm n g := by
  have := sm_add f (fun i => - g i) n
  rw [sm_neg] at this
  rw [Int.sub_eq_add_neg, ← this]
  exact sm_congr fun i _ => Int.sub_eq_add_neg
/-- a row less a multiple of one that is solved -/
theorem Sol.elim {n : Nat} {r r' a x : Nat → Int} {q : Int} (h : ∀ k, k ≤ n → r' k % p = (r k - q * a k) % p) (ha : Sol p n a x) : Sol p n r' x ↔ Sol p n r x := by
  have e : (sm n fun k => r' k * x k) % p = ((sm n fun k => r k * x k) - q * (sm n fun k => a k * x k)) % p := by
    rw [← sm_mul, ← sm_sub]
    refine sm_mod fun i hi => ?_
    rw [Int.mul_emod, h i (by omega), ← Int.mul_emod, Int.sub_mul, Int.mul_assoc]
  unfold Sol at ha ⊢
  have e2 : (q * (sm n fun k => a k * x k)) % p = (q * a n) % p := by rw [Int.mul_emod, ha, ← Int.mul_emod]
  rw [e, h n (Nat.le_refl _), Int.sub_emod, e2, ← Int.sub_emod]
  constructor
  · intro h2
    have := congrArg (fun z => (z + q * a n) % p) h2
    simpa using this
  · intro h2
    rw [Int.sub_emod, h2, ← Int.sub_emod]
/-- the rows on their way: from R0, with so many steps made, ahead of a column -/
structure Gs (p : Int) (n m : Nat) (R0 R : Nat → Nat → Int) (at_ k : Nat) : Prop where
  atm : at_ ≤ m
  rng : ∀ i, i < m → ∀ j, j ≤ n → 0 ≤ R i j ∧ R i j < p
  eqv : ∀ x : Nat → Int, (∀ i, i < m → Sol p n (R i) x) ↔ (∀ i, i < m → Sol p n (R0 i) x)
  zro : ∀ i, at_ ≤ i → i < m → ∀ j, j < k → R i j = 0
  kn : k ≤ n
  ext : ∀ y : Nat → Int, ∃ x : Nat → Int, (∀ j, k ≤ j → x j = y j) ∧ ∀ i, i < at_ → Sol p n (R i) x
theorem Gs.start {n m : Nat} {R : Nat → Nat → Int} (h : ∀ i, i < m → ∀ j, j ≤ n → 0 ≤ R i j ∧ R i j < p) : Gs p n m R R 0 0 :=
  ⟨Nat.zero_le _, h, fun _ => Iff.rfl, fun _ _ _ _ h => absurd h (Nat.not_lt_zero _), Nat.zero_le _, fun y => ⟨y, fun _ _ => rfl, fun _ h => absurd h (Nat.not_lt_zero _)⟩⟩
theorem Gs.skip {n m : Nat} {R0 R : Nat → Nat → Int} {at_ k : Nat} (h : Gs p n m R0 R at_ k) (hk : k < n) (h0 : ∀ i, at_ ≤ i → i < m → R i k = 0) : Gs p n m R0 R at_ (k + 1) :=
  ⟨h.atm, h.rng, h.eqv, fun i h1 h2 j h3 => by
    rcases Nat.lt_or_ge j k with h4 | h4
    · exact h.zro i h1 h2 j h4
    · obtain rfl : j = k := by omega
      exact h0 i h1 h2, by omega, fun y => by
    obtain ⟨x, h1, h2⟩ := h.ext y
    exact ⟨x, fun j hj => h1 j (by omega), h2⟩⟩
/-- two rows change places -/
def swapF (R : Nat → Nat → Int) (a b : Nat) : Nat → Nat → Int := fun i => if i = a then R b else if i = b then R a else R i
theorem Gs.swap {n m : Nat} {R0 R : Nat → Nat → Int} {at_ k f : Nat} (h : Gs p n m R0 R at_ k) (ha : at_ ≤ f) (hf : f < m) : Gs p n m R0 (swapF R at_ f) at_ k := by
  have key : ∀ (P : (Nat → Int) → Prop), (∀ i, i < m → P (swapF R at_ f i)) ↔ ∀ i, i < m → P (R i) := fun P => by
    constructor
    · intro h i hi
      by_cases e1 : i = at_
      · have := h f hf
        unfold swapF at this
        split at this
        · next e => rw [e1, ← e]; exact this
        · rw [if_pos rfl] at this; rw [e1]; exact this
      · by_cases e2 : i = f
        · have := h at_ (by omega)
          unfold swapF at this
          rw [if_pos rfl] at this
          rw [e2]; exact this
        · have := h i hi
          unfold swapF at this
          rw [if_neg e1, if_neg e2] at this
          exact this
    · intro h i hi
      unfold swapF
      split
      · exact h f hf
      · split
        · exact h at_ (by omega)
        · exact h i hi
  refine ⟨h.atm, (key fun r => ∀ j, j ≤ n → 0 ≤ r j ∧ r j < p).2 h.rng, fun x => (key fun r => Sol p n r x).trans (h.eqv x), fun i h1 h2 j h3 => ?_, h.kn, fun y => ?_⟩
  · unfold swapF
    split
    · exact h.zro f ha hf j h3
    · split
      · exact h.zro at_ (Nat.le_refl _) (by omega) j h3
      · exact h.zro i h1 h2 j h3
  · obtain ⟨x, h1, h2⟩ := h.ext y
    refine ⟨x, h1, fun i hi => ?_⟩
    unfold swapF
    rw [if_neg (by omega), if_neg (by omega)]
    exact h2 i hi
/-- a row is taken away from one below -/
theorem Gs.sub {n m : Nat} {R0 R R' : Nat → Nat → Int} {at_ k i : Nat} {q : Int} (hp : 2 ≤ p) (h : Gs p n m R0 R at_ k) (ha : at_ < i) (hi : i < m) (hs : ∀ j, j ≤ n → R' i j = (R i j - q * R at_ j) % p) (ho : ∀ o, o ≠ i → R' o = R o) : Gs p n m R0 R' at_ k := by
  refine ⟨h.atm, fun o h1 j h2 => ?_, fun x => Iff.trans ?_ (h.eqv x), fun o h1 h2 j h3 => ?_, h.kn, fun y => ?_⟩
  · by_cases e : o = i
    · rw [e, hs j h2]; exact mod_range _ hp
    · rw [ho o e]; exact h.rng o h1 j h2
  · have key : Sol p n (R at_) x → (Sol p n (R' i) x ↔ Sol p n (R i) x) := Sol.elim (q := q) fun j hj => by rw [hs j hj, Int.emod_emod_of_dvd _ (Int.dvd_refl _)]
    constructor
    · intro g o ho'
      by_cases e : o = i
      · have ga : Sol p n (R at_) x := by have := g at_ (by omega); rwa [ho at_ (by omega)] at this
        rw [e]
        exact (key ga).1 (g i hi)
      · have := g o ho'; rwa [ho o e] at this
    · intro g o ho'
      by_cases e : o = i
      · rw [e]; exact (key (g at_ (by omega))).2 (g i hi)
      · rw [ho o e]; exact g o ho'
  · by_cases e : o = i
    · have hk := h.kn
      rw [e, hs j (by omega), h.zro i (by omega) hi j h3, h.zro at_ (Nat.le_refl _) (by omega) j h3]; simp
    · rw [ho o e]; exact h.zro o h1 h2 j h3
  · obtain ⟨x, h1, h2⟩ := h.ext y
    exact ⟨x, h1, fun o ho' => by rw [ho o (by omega)]; exact h2 o ho'⟩
/-- a column is done -/
theorem Gs.next {n m : Nat} {R0 R : Nat → Nat → Int} {at_ k : Nat} {v : Int} (h : Gs p n m R0 R at_ k) (hk : k < n) (ha : at_ < m) (hv : R at_ k * v % p = 1 % p) (h0 : ∀ i, at_ < i → i < m → R i k = 0) : Gs p n m R0 R (at_ + 1) (k + 1) := by
  refine ⟨by omega, h.rng, h.eqv, fun i h1 h2 j h3 => ?_, by omega, fun y => ?_⟩
  · rcases Nat.lt_or_ge j k with h4 | h4
    · exact h.zro i (by omega) h2 j h4
    · obtain rfl : j = k := by omega
      exact h0 i (by omega) h2
  · obtain ⟨x, h1, h2⟩ := h.ext fun j => if j = k then v * (R at_ n - sm (n - 1 - k) fun i => R at_ (k + 1 + i) * y (k + 1 + i)) else y j
    refine ⟨x, fun j hj => by rw [h1 j (by omega), if_neg (by omega)], fun i hi => ?_⟩
    rcases Nat.lt_or_ge i at_ with h3 | h3
    · exact h2 i h3
    · obtain rfl : i = at_ := by omega
      unfold Sol
      rw [sm_piece k (n - k) (by omega) (fun j hj => by rw [h.zro i (Nat.le_refl _) ha j hj, Int.zero_mul]) (fun j h4 h5 => by omega), show n - k = n - 1 - k + 1 by omega, sm_head, h1 (k + 0) (by omega), if_pos (Nat.add_zero k), Nat.add_zero]
      rw [sm_congr (f := fun j => R i (k + (j + 1)) * x (k + (j + 1))) (g := fun j => R i (k + 1 + j) * y (k + 1 + j)) fun j hj => by rw [h1 _ (by omega), if_neg (by omega), show k + (j + 1) = k + 1 + j by omega]]
      rw [← Int.mul_assoc, Int.add_emod, Int.mul_emod, hv, ← Int.mul_emod, Int.one_mul, ← Int.add_emod, Int.sub_add_cancel]
/-- in the end -/
theorem Gs.end {n m : Nat} {R0 R : Nat → Nat → Int} {at_ : Nat} (h : Gs p n m R0 R at_ n) : (∀ i, at_ ≤ i → i < m → R i n = 0) ↔ ∃ x, ∀ i, i < m → Sol p n (R0 i) x := by
  constructor
  · intro h0
    obtain ⟨x, _, h2⟩ := h.ext fun _ => 0
    refine ⟨x, (h.eqv x).1 fun i hi => ?_⟩
    rcases Nat.lt_or_ge i at_ with h3 | h3
    · exact h2 i h3
    · unfold Sol
      rw [sm_zero fun j hj => by rw [h.zro i h3 hi j hj, Int.zero_mul], h0 i h3 hi]
  · rintro ⟨x, hx⟩ i h1 h2
    have := (h.eqv x).2 hx i h2
    unfold Sol at this
    rw [sm_zero fun j hj => by rw [h.zro i h1 h2 j hj, Int.zero_mul]] at this
    have hr := h.rng i h2 n (Nat.le_refl _)
    rw [Int.zero_emod, Int.emod_eq_of_lt hr.1 hr.2] at this
    exact this.symm
end Go.Proofs.Ytbpbagejblbacaa
