/- Thin matrices: each right whole matrix has one (in plain Lean; nothing of a program). -/
import Derived.Test.YtlociefncogjeaaMatS
namespace Go.Proofs.Ytlociefncogjeaa
variable {p : Int}

/-- how many of the first t numbers aren't 0 -/
def nz (xs : List Int) (t : Nat) : Nat := (thV xs t).length
theorem nz_zero (xs : List Int) : nz xs 0 = 0 := rfl
theorem nz_succ (xs : List Int) (t : Nat) : nz xs (t + 1) = if xs.getD t 0 = 0 then nz xs t else nz xs t + 1 := by
  unfold nz; rw [thV]; split
  · rfl
  · rw [List.length_append]; rfl
theorem nz_le (xs : List Int) (s : Nat) : ∀ d, nz xs s ≤ nz xs (s + d)
  | 0 => Nat.le_refl _
  | d + 1 => by
    have := nz_le xs s d
    rw [← Nat.add_assoc, nz_succ]
    split <;> omega
theorem nz_mono (xs : List Int) {s t : Nat} (h : s ≤ t) : nz xs s ≤ nz xs t := by
  have := nz_le xs s (t - s)
  rwa [Nat.add_sub_cancel' h] at this
theorem nz_lt (xs : List Int) {s t : Nat} (h : s < t) (hx : xs.getD s 0 ≠ 0) : nz xs s < nz xs t := by
  have := nz_mono xs (show s + 1 ≤ t from h)
  rw [nz_succ, if_neg hx] at this
  omega
/-- the number behind the k-th that isn't 0 -/
theorem thV_at (xs : List Int) (n : Nat) : ∀ (t s : Nat), s < t → xs.getD s 0 ≠ 0 → (thV xs t).getD (nz xs s) 0 = xs.getD s 0 ∧ (thC xs n t).getD (nz xs s) 0 = ((s % n : Nat) : Int)
  | 0, s, h, _ => absurd h (Nat.not_lt_zero _)
  | t + 1, s, h, hx => by
    have hl := thC_len xs n t
    rw [thV, thC]
    by_cases e : s = t
    · subst e
      rw [if_neg hx, if_neg hx]
      constructor
      · simp [List.getD, nz]
      · unfold nz; rw [← hl]; simp [List.getD]
    · have ih := thV_at xs n t s (by omega) hx
      split
      · exact ih
      · have h1 : nz xs s < (thV xs t).length := nz_lt xs (show s < t by omega) hx
        constructor
        · rw [← ih.1]; simp [List.getD, List.getElem?_append_left h1]
        · rw [← ih.2]; simp [List.getD, List.getElem?_append_left (hl ▸ h1)]
theorem nz_find (xs : List Int) : ∀ (t k : Nat), k < nz xs t → ∃ s, s < t ∧ xs.getD s 0 ≠ 0 ∧ nz xs s = k
  | 0, k, h => absurd h (Nat.not_lt_zero _)
  | t + 1, k, h => by
    rw [nz_succ] at h
    by_cases e : xs.getD t 0 = 0
    · rw [if_pos e] at h
      obtain ⟨s, h1, h2, h3⟩ := nz_find xs t k h
      exact ⟨s, by omega, h2, h3⟩
    · rw [if_neg e] at h
      by_cases ek : k = nz xs t
      · exact ⟨t, by omega, e, ek.symm⟩
      · obtain ⟨s, h1, h2, h3⟩ := nz_find xs t k (by omega)
        exact ⟨s, by omega, h2, h3⟩
theorem thV_mem (xs : List Int) : ∀ (t : Nat), t ≤ xs.length → ∀ x ∈ thV xs t, x ∈ xs
  | 0, _, x, h => by cases h
  | t + 1, ht, x, h => by
    rw [thV] at h
    split at h
    · exact thV_mem xs t (by omega) x h
    · rcases List.mem_append.1 h with h | h
      · exact thV_mem xs t (by omega) x h
      · rw [List.mem_singleton] at h
        subst h
        have e : xs.getD t 0 = xs[t] := by simp [List.getD, List.getElem?_eq_getElem (show t < xs.length by omega)]
        rw [e]; exact List.getElem_mem _
theorem nz_len (xs : List Int) (t : Nat) : nz xs t ≤ t := by
  induction t with
  | zero => exact Nat.le_refl _
  | succ t ih => rw [nz_succ]; split <;> omega
/-- where the rows begin -/
def thB (xs : List Int) (m n : Nat) : List Int := tab (m + 1) fun i => (nz xs (i * n) : Int)
theorem thB_get (xs : List Int) {m n i : Nat} (h : i ≤ m) : (thB xs m n).getD i 0 = nz xs (i * n) := tab_get _ (by omega)
/-- position k of row i stands for a place of that row -/
theorem row_find (xs : List Int) {n i k : Nat} (h1 : nz xs (i * n) ≤ k) (h2 : k < nz xs ((i + 1) * n)) : ∃ c, c < n ∧ xs.getD (i * n + c) 0 ≠ 0 ∧ nz xs (i * n + c) = k := by
  obtain ⟨s, hs, hx, hk⟩ := nz_find xs _ k h2
  rw [Nat.succ_mul] at hs
  have hge : i * n ≤ s := by
    rcases Nat.lt_or_ge s (i * n) with h | h
    · have := nz_lt xs h hx; omega
    · exact h
  exact ⟨s - i * n, by omega, by rw [Nat.add_sub_cancel' hge]; exact hx, by rw [Nat.add_sub_cancel' hge]; exact hk⟩
theorem thin_ok {m n : Nat} {xs : List Int} (hm : 1 ≤ m ∧ m ≤ 64) (hn : 1 ≤ n ∧ n ≤ 64) (hl : xs.length = m * n) (hx : hasB p xs = true) : SpOk p m n (thB xs m n) (thC xs n (m * n)) (thV xs (m * n)) where
  m1 := hm
  n1 := hn
  lb := tab_len _ _
  lc := thC_len _ _ _
  hv := hasB_sub hx fun y hy => thV_mem xs _ (by omega) y hy
  b0 := by rw [thB_get xs (Nat.zero_le _), Nat.zero_mul]; rfl
  bm := by rw [thB_get xs (Nat.le_refl _), thC_len]; rfl
  mono := fun i hi => by
    rw [thB_get xs (by omega), thB_get xs (by omega)]
    have := nz_mono xs (show i * n ≤ (i + 1) * n from Nat.mul_le_mul_right _ (by omega))
    omega
  row := fun i hi k h1 h2 => by
    rw [thB_get xs (by omega)] at h1
    rw [thB_get xs (by omega)] at h2
    obtain ⟨c, hc, hc0, hk⟩ := row_find xs (by omega) (show k < nz xs ((i + 1) * n) by omega)
    obtain ⟨e1, e2⟩ := thV_at xs n (m * n) (i * n + c) (at_lt hi hc) hc0
    rw [hk] at e1 e2
    rw [at_mod hc] at e2
    refine ⟨by rw [e1]; exact hc0, by rw [e2]; omega, by rw [e2]; omega, fun hb => ?_⟩
    rw [thB_get xs (by omega)] at hb
    obtain ⟨c', hc', hc0', hk'⟩ := row_find xs (n := n) (i := i) (k := k - 1) (by omega) (by omega)
    obtain ⟨_, e2'⟩ := thV_at xs n (m * n) (i * n + c') (at_lt hi hc') hc0'
    rw [hk', at_mod hc'] at e2'
    rw [e2, e2']
    rcases Nat.lt_or_ge c' c with h | h
    · omega
    · have := nz_mono xs (show i * n + c ≤ i * n + c' by omega)
      omega
theorem thin_whole {m n : Nat} {xs : List Int} (hm : 1 ≤ m ∧ m ≤ 64) (hn : 1 ≤ n ∧ n ≤ 64) (hl : xs.length = m * n) (hx : hasB p xs = true) {i c : Nat} (hi : i < m) (hc : c < n) : xs.getD (i * n + c) 0 = whAt (thB xs m n) (thC xs n (m * n)) (thV xs (m * n)) i c := by
  have ok := thin_ok (p := p) hm hn hl hx
  by_cases e : xs.getD (i * n + c) 0 = 0
  · rw [e]
    refine (whF_miss (fun k h1 h2 h3 => ?_) _).symm
    rw [thB_get xs (by omega)] at h1
    rw [thB_get xs (by omega)] at h2
    obtain ⟨c', hc', hc0', hk'⟩ := row_find xs (n := n) (i := i) (k := k) (by omega) (by omega)
    obtain ⟨_, e2⟩ := thV_at xs n (m * n) (i * n + c') (at_lt hi hc') hc0'
    rw [hk', at_mod hc', h3] at e2
    obtain rfl : c = c' := by omega
    exact hc0' e
  · obtain ⟨e1, e2⟩ := thV_at xs n (m * n) (i * n + c) (at_lt hi hc) e
    rw [at_mod hc] at e2
    have h1 : (thB xs m n).getD i 0 ≤ (nz xs (i * n + c) : Int) := by
      rw [thB_get xs (by omega)]
      have := nz_mono xs (show i * n ≤ i * n + c by omega)
      omega
    have h2 : (nz xs (i * n + c) : Int) < (thB xs m n).getD (i + 1) 0 := by
      rw [thB_get xs (by omega)]
      have := nz_lt xs (show i * n + c < (i + 1) * n by rw [Nat.succ_mul]; omega) e
      omega
    have hN : nz xs (i * n + c) < (thC xs n (m * n)).length := by
      rw [thC_len]; exact nz_lt xs (at_lt hi hc) e
    exact (e1.symm.trans (whF_hit h1 h2 e2 (fun k h3 h4 h5 => ok.once hi h3 h4 h1 h2 (by rw [h5, e2])) _ hN).symm)
/-- each right thin matrix is the thin form of its whole one -/
theorem thin_eq {m n : Nat} {bs cs vs xs : List Int} (ok : SpOk p m n bs cs vs) (hx : ∀ i c, i < m → c < n → xs.getD (i * n + c) 0 = whAt bs cs vs i c) : bs = thB xs m n ∧ cs = thC xs n (m * n) ∧ vs = thV xs (m * n) := by
  have h := thin_unique ok hx
  obtain ⟨_, h2, h3⟩ := h m (Nat.le_refl _)
  rw [ok.bm] at h2 h3
  refine ⟨?_, ?_, ?_⟩
  · refine list_ext (by rw [ok.lb]; exact (tab_len _ _).symm) fun k hk => ?_
    rw [ok.lb] at hk
    rw [thB_get xs (by omega)]
    exact (h k (by omega)).1
  · rw [h3]; simp
  · rw [h2, Int.toNat_natCast, ok.lc]; simp
/-- and the whole one is right -/
theorem whole_eq {m n : Nat} {xs : List Int} (hm : 1 ≤ m ∧ m ≤ 64) (hn : 1 ≤ n ∧ n ≤ 64) (hl : xs.length = m * n) (hx : hasB p xs = true) : grid m n (whAt (thB xs m n) (thC xs n (m * n)) (thV xs (m * n))) = xs := by
  refine list_ext (by rw [hl]; exact tab_len _ _) fun k hk => ?_
  have hk' : k < m * n := by rw [show (grid m n (whAt (thB xs m n) (thC xs n (m * n)) (thV xs (m * n)))).length = m * n from tab_len _ _] at hk; exact hk
  have h0 : 0 < n := by omega
  have hd : k / n < m := (Nat.div_lt_iff_lt_mul h0).2 hk'
  have hr : k % n < n := Nat.mod_lt _ h0
  have e := thin_whole (p := p) hm hn hl hx hd hr
  rw [Nat.div_add_mod' k n] at e
  rw [e]
  exact tab_get _ hk'
end Go.Proofs.Ytlociefncogjeaa
