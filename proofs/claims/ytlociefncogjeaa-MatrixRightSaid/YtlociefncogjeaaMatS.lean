/- Thin matrices: the one of a whole matrix, and that there is no other (in plain Lean; nothing of a program). -/
import Derived.Test.YtlociefncogjeaaMat7
namespace Go.Proofs.Ytlociefncogjeaa
variable {p : Int}

/-- what is met at row i and column c, once -/
theorem whF_hit {bs cs vs : List Int} {i c k0 : Nat} (h1 : bs.getD i 0 ≤ k0) (h2 : (k0 : Int) < bs.getD (i + 1) 0) (h3 : cs.getD k0 0 = c) (hu : ∀ k : Nat, bs.getD i 0 ≤ k → (k : Int) < bs.getD (i + 1) 0 → cs.getD k 0 = c → k = k0) :
    ∀ N : Nat, k0 < N → whF bs cs vs i c N = vs.getD k0 0
  | 0, h => absurd h (Nat.not_lt_zero _)
  | N + 1, h => by
    rw [whF]
    by_cases e : bs.getD i 0 ≤ N ∧ (N : Int) < bs.getD (i + 1) 0 ∧ cs.getD N 0 = c
    · rw [if_pos e, hu N e.1 e.2.1 e.2.2]
    · rw [if_neg e]
      have hne : k0 ≠ N := fun e2 => e ⟨by rw [← e2]; exact h1, by rw [← e2]; exact h2, by rw [← e2]; exact h3⟩
      exact whF_hit h1 h2 h3 hu N (by omega)
theorem whF_miss {bs cs vs : List Int} {i c : Nat} (hu : ∀ k : Nat, bs.getD i 0 ≤ k → (k : Int) < bs.getD (i + 1) 0 → cs.getD k 0 ≠ c) : ∀ N : Nat, whF bs cs vs i c N = 0
  | 0 => rfl
  | N + 1 => by
    rw [whF, if_neg fun e => hu N e.1 e.2.1 e.2.2]
    exact whF_miss hu N
/-- the numbers that aren't 0, among the first t; and their columns -/
def thV (xs : List Int) : Nat → List Int
  | 0 => []
  | t + 1 => if xs.getD t 0 = 0 then thV xs t else thV xs t ++ [xs.getD t 0]
def thC (xs : List Int) (n : Nat) : Nat → List Int
  | 0 => []
  | t + 1 => if xs.getD t 0 = 0 then thC xs n t else thC xs n t ++ [((t % n : Nat) : Int)]
theorem thC_len (xs : List Int) (n : Nat) : ∀ t, (thC xs n t).length = (thV xs t).length
  | 0 => rfl
  | t + 1 => by
    rw [thC, thV]
    split
    · exact thC_len xs n t
    · rw [List.length_append, List.length_append, thC_len xs n t]; rfl
/-- in a right thin matrix columns rise -/
theorem SpOk.rise {m n : Nat} {bs cs vs : List Int} (h : SpOk p m n bs cs vs) {i : Nat} (hi : i < m) {k : Nat} (hk : bs.getD i 0 ≤ k) : ∀ d : Nat, ((k + d + 1 : Nat) : Int) < bs.getD (i + 1) 0 → cs.getD k 0 < cs.getD (k + d + 1) 0
  | 0, hd => by
    have := (h.row i hi (k + 1) (by omega) hd).2.2.2 (by omega)
    rw [show k + 1 - 1 = k by omega] at this
    exact this
  | d + 1, hd => by
    have h1 := h.rise hi hk d (by omega)
    have h2 := (h.row i hi (k + d + 2) (by omega) hd).2.2.2 (by omega)
    rw [show k + d + 2 - 1 = k + d + 1 by omega] at h2
    exact Int.lt_trans h1 h2
theorem SpOk.once {m n : Nat} {bs cs vs : List Int} (h : SpOk p m n bs cs vs) {i : Nat} (hi : i < m) {k k' : Nat} (h1 : bs.getD i 0 ≤ k) (h2 : (k : Int) < bs.getD (i + 1) 0) (h3 : bs.getD i 0 ≤ k') (h4 : (k' : Int) < bs.getD (i + 1) 0) (e : cs.getD k 0 = cs.getD k' 0) : k = k' := by
  rcases Nat.lt_trichotomy k k' with hlt | heq | hgt
  · have := h.rise hi h1 (k' - k - 1) (by rw [show k + (k' - k - 1) + 1 = k' by omega]; exact h4)
    rw [show k + (k' - k - 1) + 1 = k' by omega] at this
    omega
  · exact heq
  · have := h.rise hi h3 (k - k' - 1) (by rw [show k' + (k - k' - 1) + 1 = k by omega]; exact h2)
    rw [show k' + (k - k' - 1) + 1 = k by omega] at this
    omega
/-- the scan of a right thin matrix's whole one, up to row i and column c -/
structure Scan (bs cs vs xs : List Int) (n i c K : Nat) : Prop where
  lo : bs.getD i 0 ≤ K
  hi : (K : Int) ≤ bs.getD (i + 1) 0
  be : ∀ k : Nat, bs.getD i 0 ≤ k → k < K → cs.getD k 0 < c
  af : ∀ k : Nat, K ≤ k → (k : Int) < bs.getD (i + 1) 0 → (c : Int) ≤ cs.getD k 0
  v : thV xs (i * n + c) = vs.take K
  c_ : thC xs n (i * n + c) = cs.take K
theorem Scan.step {m n : Nat} {bs cs vs xs : List Int} {i c K : Nat} (ok : SpOk p m n bs cs vs) (hx : ∀ i c, i < m → c < n → xs.getD (i * n + c) 0 = whAt bs cs vs i c) (hi : i < m) (hc : c < n) (h : Scan bs cs vs xs n i c K) : ∃ K', Scan bs cs vs xs n i (c + 1) K' := by
  have hble := mono_ge ok.mono (i + 1) m (by omega) (Nat.le_refl _)
  rw [ok.bm] at hble
  have hxc := hx i c hi hc
  by_cases e : (K : Int) < bs.getD (i + 1) 0 ∧ cs.getD K 0 = c
  · have hcell := ok.row i hi K h.lo e.1
    have hw : whAt bs cs vs i c = vs.getD K 0 := whF_hit h.lo e.1 e.2 (fun k h1 h2 h3 => ok.once hi h1 h2 h.lo e.1 (by rw [h3, e.2])) cs.length (by omega)
    have hKl : K < vs.length := by rw [← ok.lc]; omega
    refine ⟨K + 1, ⟨by have := h.lo; omega, by omega, fun k h1 h2 => ?_, fun k h1 h2 => ?_, ?_, ?_⟩⟩
    · by_cases ek : k = K
      · rw [ek, e.2]; omega
      · have := h.be k h1 (by omega); omega
    · have := ok.rise hi h.lo (k - K - 1) (by rw [show K + (k - K - 1) + 1 = k by omega]; exact h2)
      rw [show K + (k - K - 1) + 1 = k by omega, e.2] at this
      omega
    · rw [show i * n + (c + 1) = i * n + c + 1 by omega, thV, hxc, hw, if_neg hcell.1, h.v, take_snoc vs K hKl]
    · rw [show i * n + (c + 1) = i * n + c + 1 by omega, thC, hxc, hw, if_neg hcell.1, h.c_, take_snoc cs K (by omega), at_mod hc, e.2]
  · have hw : whAt bs cs vs i c = 0 := whF_miss (fun k h1 h2 h3 => by
      rcases Nat.lt_or_ge k K with hk | hk
      · have := h.be k h1 hk; omega
      · by_cases ek : k = K
        · exact e ⟨by rw [← ek]; exact h2, by rw [← ek]; exact h3⟩
        · have h4 := h.af K (Nat.le_refl _) (by omega)
          have h5 := ok.rise hi h.lo (k - K - 1) (by rw [show K + (k - K - 1) + 1 = k by omega]; exact h2)
          rw [show K + (k - K - 1) + 1 = k by omega] at h5
          omega) _
    refine ⟨K, ⟨h.lo, h.hi, fun k h1 h2 => by have := h.be k h1 h2; omega, fun k h1 h2 => ?_, ?_, ?_⟩⟩
    · by_cases ek : k = K
      · have h4 := h.af k h1 h2
        have : cs.getD k 0 ≠ c := fun h3 => e ⟨by rw [← ek]; exact h2, by rw [← ek]; exact h3⟩
        omega
      · have h4 := h.af K (Nat.le_refl _) (by omega)
        have h5 := ok.rise hi h.lo (k - K - 1) (by rw [show K + (k - K - 1) + 1 = k by omega]; exact h2)
        rw [show K + (k - K - 1) + 1 = k by omega] at h5
        omega
    · rw [show i * n + (c + 1) = i * n + c + 1 by omega, thV, hxc, hw, if_pos rfl, h.v]
    · rw [show i * n + (c + 1) = i * n + c + 1 by omega, thC, hxc, hw, if_pos rfl, h.c_]
/-- a right thin matrix is the one of its whole matrix -/
theorem thin_unique {m n : Nat} {bs cs vs xs : List Int} (ok : SpOk p m n bs cs vs) (hx : ∀ i c, i < m → c < n → xs.getD (i * n + c) 0 = whAt bs cs vs i c) :
    (∀ i, i ≤ m → bs.getD i 0 = (thV xs (i * n)).length ∧ thV xs (i * n) = vs.take (bs.getD i 0).toNat ∧ thC xs n (i * n) = cs.take (bs.getD i 0).toNat) := by
  intro i
  induction i with
  | zero =>
    intro _
    rw [ok.b0, Nat.zero_mul]
    exact ⟨rfl, rfl, rfl⟩
  | succ i ih =>
    intro hi
    obtain ⟨h1, h2, h3⟩ := ih (by omega)
    have hm := ok.mono i (by omega)
    have hb0 := mono_ge ok.mono 0 i (Nat.zero_le _) (by omega)
    rw [ok.b0] at hb0
    have start : Scan bs cs vs xs n i 0 (bs.getD i 0).toNat := ⟨by omega, by omega, fun k a b => by omega, fun k a b => (ok.row i (by omega) k (by omega) b).2.1, by rw [Nat.add_zero]; exact h2, by rw [Nat.add_zero]; exact h3⟩
    have all : ∀ c, c ≤ n → ∃ K, Scan bs cs vs xs n i c K := by
      intro c
      induction c with
      | zero => intro _; exact ⟨_, start⟩
      | succ c ihc =>
        intro hc
        obtain ⟨K, hK⟩ := ihc (by omega)
        exact hK.step ok hx (by omega) (by omega)
    obtain ⟨K, hK⟩ := all n (Nat.le_refl _)
    have hKe : (K : Int) = bs.getD (i + 1) 0 := by
      have h4 := hK.hi
      rcases Int.lt_or_eq_of_le h4 with h5 | h5
      · have h6 := hK.af K (Nat.le_refl _) h5
        have h7 := (ok.row i (by omega) K hK.lo h5).2.2.1
        omega
      · exact h5
    have hble := mono_ge ok.mono (i + 1) m (by omega) (Nat.le_refl _)
    rw [ok.bm, ok.lc] at hble
    have hv := hK.v
    have hc := hK.c_
    rw [← Nat.succ_mul] at hv hc
    refine ⟨?_, by rw [← hKe]; exact hv, by rw [← hKe]; exact hc⟩
    rw [hv, List.length_take, ← hKe]
    omega
end Go.Proofs.Ytlociefncogjeaa
