/- What the texts MatS, MxM, MatT, MatOk, Clm, Clm2, Cm1, Pm1 show, in one text. -/
import Derived.Test.YtnfnommiabalfaaBun15
import Derived.Test.YtnfnommiabalfaaBun07
import Derived.Test.YtnfnommiabalfaaBun13
import Derived.Test.YtnfnommiabalfaaBun05
import Derived.Test.YtnfnommiabalfaaBun12
import Derived.Test.YtnfnommiabalfaaBoxes
import Derived.Test.YtnfnommiabalfaaBun09
import Derived.Maps.AppendAt
import Derived.Test.YtnfnommiabalfaaBun04
/- Thin matrices: the one of a whole matrix, and that there is no other (in plain Lean; nothing of a program). -/
namespace Go.Proofs.Ytnfnommiabalfaa
variable {p : Int}

/-- what is met at row i and column c, once -/
theorem whF_hit {bs cs vs : List Int} {i c k0 : Nat} (h1 : bs.getD i 0 ≤ k0) (h2 : (k0 : Int) < bs.getD (i + 1) 0) (h3 : cs.getD k0 0 = c) (hu : ∀ k : Nat, bs.getD i 0 ≤ k → (k : Int) < bs.getD (i + 1) 0 → cs.getD k 0 = c → k = k0) :
    ∀ N : Nat, k0 < N → whF bs cs vs i c N = vs.getD k0 0
  | 0, h => absurd h (Nat.not_lt_zero _)
  | N + 1, h => by
    rw [whF]
    by_cases e : bs.getD i 0 ≤ N ∧ (N : Int) < bs.getD (i + 1) 0 ∧ cs.getD N 0 = c
    · rw [if_pos e, hu N e.1 e.2.1 e.2.2]
    · rw [if_neg e]
      have hne : k0 ≠ N := fun e2 => e ⟨by rw [← e2]; exact h1, by rw [← e2]; exact h2, by rw [← e2]; exact h3⟩
      exact whF_hit h1 h2 h3 hu N (by omega)
theorem whF_miss {bs cs vs : List Int} {i c : Nat} (hu : ∀ k : Nat, bs.getD i 0 ≤ k → (k : Int) < bs.getD (i + 1) 0 → cs.getD k 0 ≠ c) : ∀ N : Nat, whF bs cs vs i c N = 0
  | 0 => rfl
  | N + 1 => by
    rw [whF, if_neg fun e => hu N e.1 e.2.1 e.2.2]
    exact whF_miss hu N
/-- the numbers that aren't 0, among the first t; and their columns -/
def thV (xs : List Int) : Nat → List Int
  | 0 => []
  | t + 1 => if xs.getD t 0 = 0 then thV xs t else thV xs t ++ [xs.getD t 0]
def thC (xs : List Int) (n : Nat) : Nat → List Int
  | 0 => []
  | t + 1 => if xs.getD t 0 = 0 then thC xs n t else thC xs n t ++ [((t % n : Nat) : Int)]
theorem thC_len (xs : List Int) (n : Nat) : ∀ t, (thC xs n t).length = (thV xs t).length
  | 0 => rfl
  | t + 1 => by
    rw [thC, thV]
    split
    · exact thC_len xs n t
    · rw [List.length_append, List.length_append, thC_len xs n t]; rfl
/-- in a right thin matrix columns rise -/
theorem SpOk.rise {m n : Nat} {bs cs vs : List Int} (h : SpOk p m n bs cs vs) {i : Nat} (hi : i < m) {k : Nat} (hk : bs.getD i 0 ≤ k) : ∀ d : Nat, ((k + d + 1 : Nat) : Int) < bs.getD (i + 1) 0 → cs.getD k 0 < cs.getD (k + d + 1) 0
  | 0, hd => by
    have := (h.row i hi (k + 1) (by omega) hd).2.2.2 (by omega)
    rw [show k + 1 - 1 = k by omega] at this
    exact this
  | d + 1, hd => by
    have h1 := h.rise hi hk d (by omega)
    have h2 := (h.row i hi (k + d + 2) (by omega) hd).2.2.2 (by omega)
    rw [show k + d + 2 - 1 = k + d + 1 by omega] at h2
    exact Int.lt_trans h1 h2
theorem SpOk.once {m n : Nat} {bs cs vs : List Int} (h : SpOk p m n bs cs vs) {i : Nat} (hi : i < m) {k k' : Nat} (h1 : bs.getD i 0 ≤ k) (h2 : (k : Int) < bs.getD (i + 1) 0) (h3 : bs.getD i 0 ≤ k') (h4 : (k' : Int) < bs.getD (i + 1) 0) (e : cs.getD k 0 = cs.getD k' 0) : k = k' := by
  rcases Nat.lt_trichotomy k k' with hlt | heq | hgt
  · have := h.rise hi h1 (k' - k - 1) (by rw [show k + (k' - k - 1) + 1 = k' by omega]; exact h4)
    rw [show k + (k' - k - 1) + 1 = k' by omega] at this
    omega
  · exact heq
  · have := h.rise hi h3 (k - k' - 1) (by rw [show k' + (k - k' - 1) + 1 = k by omega]; exact h2)
    rw [show k' + (k - k' - 1) + 1 = k by omega] at this
    omega
/-- the scan of a right thin matrix's whole one, up to row i and column c -/
structure Scan (bs cs vs xs : List Int) (n i c K : Nat) : Prop where
  lo : bs.getD i 0 ≤ K
  hi : (K : Int) ≤ bs.getD (i + 1) 0
  be : ∀ k : Nat, bs.getD i 0 ≤ k → k < K → cs.getD k 0 < c
  af : ∀ k : Nat, K ≤ k → (k : Int) < bs.getD (i + 1) 0 → (c : Int) ≤ cs.getD k 0
  v : thV xs (i * n + c) = vs.take K
  c_ : thC xs n (i * n + c) = cs.take K
theorem Scan.step {m n : Nat} {bs cs vs xs : List Int} {i c K : Nat} (ok : SpOk p m n bs cs vs) (hx : ∀ i c, i < m → c < n → xs.getD (i * n + c) 0 = whAt bs cs vs i c) (hi : i < m) (hc : c < n) (h : Scan bs cs vs xs n i c K) : ∃ K', Scan bs cs vs xs n i (c + 1) K' := by
  have hble := mono_ge ok.mono (i + 1) m (by omega) (Nat.le_refl _)
  rw [ok.bm] at hble
  have hxc := hx i c hi hc
  by_cases e : (K : Int) < bs.getD (i + 1) 0 ∧ cs.getD K 0 = c
  · have hcell := ok.row i hi K h.lo e.1
    have hw : whAt bs cs vs i c = vs.getD K 0 := whF_hit h.lo e.1 e.2 (fun k h1 h2 h3 => ok.once hi h1 h2 h.lo e.1 (by rw [h3, e.2])) cs.length (by omega)
    have hKl : K < vs.length := by rw [← ok.lc]; omega
    refine ⟨K + 1, ⟨by have := h.lo; omega, by omega, fun k h1 h2 => ?_, fun k h1 h2 => ?_, ?_, ?_⟩⟩
    · by_cases ek : k = K
      · rw [ek, e.2]; omega
      · have := h.be k h1 (by omega); omega
    · have := ok.rise hi h.lo (k - K - 1) (by rw [show K + (k - K - 1) + 1 = k by omega]; exact h2)
      rw [show K + (k - K - 1) + 1 = k by omega, e.2] at this
      omega
    · rw [show i * n + (c + 1) = i * n + c + 1 by omega, thV, hxc, hw, if_neg hcell.1, h.v, take_snoc vs K hKl]
    · rw [show i * n + (c + 1) = i * n + c + 1 by omega, thC, hxc, hw, if_neg hcell.1, h.c_, take_snoc cs K (by omega), at_mod hc, e.2]
  · have hw : whAt bs cs vs i c = 0 := whF_miss (fun k h1 h2 h3 => by
      rcases Nat.lt_or_ge k K with hk | hk
      · have := h.be k h1 hk; omega
      · by_cases ek : k = K
        · exact e ⟨by rw [← ek]; exact h2, by rw [← ek]; exact h3⟩
        · have h4 := h.af K (Nat.le_refl _) (by omega)
          have h5 := ok.rise hi h.lo (k - K - 1) (by rw [show K + (k - K - 1) + 1 = k by omega]; exact h2)
          rw [show K + (k - K - 1) + 1 = k by omega] at h5
          omega) _
    refine ⟨K, ⟨h.lo, h.hi, fun k h1 h2 => by have := h.be k h1 h2; omega, fun k h1 h2 => ?_, ?_, ?_⟩⟩
    · by_cases ek : k = K
      · have h4 := h.af k h1 h2
        have : cs.getD k 0 ≠ c := fun h3 => e ⟨by rw [← ek]; exact h2, by rw [← ek]; exact h3⟩
        omega
      · have h4 := h.af K (Nat.le_refl _) (by omega)
        have h5 := ok.rise hi h.lo (k - K - 1) (by rw [show K + (k - K - 1) + 1 = k by omega]; exact h2)
        rw [show K + (k - K - 1) + 1 = k by omega] at h5
        omega
    · rw [show i * n + (c + 1) = i * n + c + 1 by omega, thV, hxc, hw, if_pos rfl, h.v]
    · rw [show i * n + (c + 1) = i * n + c + 1 by omega, thC, hxc, hw, if_pos rfl, h.c_]
/-- a right thin matrix is the one of its whole matrix -/
theorem thin_unique {m n : Nat} {bs cs vs xs : List Int} (ok : SpOk p m n bs cs vs) (hx : ∀ i c, i < m → c < n → xs.getD (i * n + c) 0 = whAt bs cs vs i c) :
    (∀ i, i ≤ m → bs.getD i 0 = (thV xs (i * n)).length ∧ thV xs (i * n) = vs.take (bs.getD i 0).toNat ∧ thC xs n (i * n) = cs.take (bs.getD i 0).toNat) := by
  intro i
  induction i with
  | zero =>
    intro _
    rw [ok.b0, Nat.zero_mul]
    exact ⟨rfl, rfl, rfl⟩
  | succ i ih =>
    intro hi
    obtain ⟨h1, h2, h3⟩ := ih (by omega)
    have hm := ok.mono i (by omega)
    have hb0 := mono_ge ok.mono 0 i (Nat.zero_le _) (by omega)
    rw [ok.b0] at hb0
    have start : Scan bs cs vs xs n i 0 (bs.getD i 0).toNat := ⟨by omega, by omega, fun k a b => by omega, fun k a b => (ok.row i (by omega) k (by omega) b).2.1, by rw [Nat.add_zero]; exact h2, by rw [Nat.add_zero]; exact h3⟩
    have all : ∀ c, c ≤ n → ∃ K, Scan bs cs vs xs n i c K := by
      intro c
      induction c with
      | zero => intro _; exact ⟨_, start⟩
      | succ c ihc =>
        intro hc
        obtain ⟨K, hK⟩ := ihc (by omega)
        exact hK.step ok hx (by omega) (by omega)
    obtain ⟨K, hK⟩ := all n (Nat.le_refl _)
    have hKe : (K : Int) = bs.getD (i + 1) 0 := by
      have h4 := hK.hi
      rcases Int.lt_or_eq_of_le h4 with h5 | h5
      · have h6 := hK.af K (Nat.le_refl _) h5
        have h7 := (ok.row i (by omega) K hK.lo h5).2.2.1
        omega
      · exact h5
    have hble := mono_ge ok.mono (i + 1) m (by omega) (Nat.le_refl _)
    rw [ok.bm, ok.lc] at hble
    have hv := hK.v
    have hc := hK.c_
    rw [← Nat.succ_mul] at hv hc
    refine ⟨?_, by rw [← hKe]; exact hv, by rw [← hKe]; exact hc⟩
    rw [hv, List.length_take, ← hKe]
    omega
end Go.Proofs.Ytnfnommiabalfaa
/- Thin matrices: sums over a row's numbers (in plain Lean; nothing of a program). -/
namespace Go.Proofs.Ytnfnommiabalfaa
variable {p : Int}

theorem whF_none {bs cs vs : List Int} {i c : Nat} : ∀ N : Nat, (∀ k : Nat, k < N → bs.getD i 0 ≤ k → (k : Int) < bs.getD (i + 1) 0 → cs.getD k 0 ≠ c) → whF bs cs vs i c N = 0
  | 0, _ => rfl
  | N + 1, h => by
    rw [whF, if_neg fun e => h N (Nat.lt_succ_self _) e.1 e.2.1 e.2.2]
    exact whF_none N fun k hk => h k (by omega)
theorem SpOk.bg {m n : Nat} {bs cs vs : List Int} (ok : SpOk p m n bs cs vs) {i : Nat} (hi : i ≤ m) : bs.getD i 0 = (beg bs i : Nat) ∧ beg bs i ≤ cs.length := beg_of ok.b0 ok.bm ok.mono hi
theorem SpOk.ble {m n : Nat} {bs cs vs : List Int} (ok : SpOk p m n bs cs vs) {i : Nat} (hi : i < m) : beg bs i ≤ beg bs (i + 1) := beg_le ok.mono hi
theorem wh_step {m n : Nat} {bs cs vs : List Int} (ok : SpOk p m n bs cs vs) {i t : Nat} (hi : i < m) (ht : beg bs i + t < beg bs (i + 1)) (c : Nat) :
    whF bs cs vs i c (beg bs i + t + 1) = if cs.getD (beg bs i + t) 0 = c then vs.getD (beg bs i + t) 0 else whF bs cs vs i c (beg bs i + t) := by
  have e1 := (ok.bg (show i ≤ m by omega)).1
  have e2 := (ok.bg (show i + 1 ≤ m by omega)).1
  rw [whF]
  by_cases e : cs.getD (beg bs i + t) 0 = c
  · rw [if_pos e, if_pos ⟨by omega, by omega, e⟩]
  · rw [if_neg e, if_neg fun h => e h.2.2]
theorem wh_fresh {m n : Nat} {bs cs vs : List Int} (ok : SpOk p m n bs cs vs) {i t : Nat} (hi : i < m) (ht : beg bs i + t < beg bs (i + 1)) {c : Nat} (e : cs.getD (beg bs i + t) 0 = c) : whF bs cs vs i c (beg bs i + t) = 0 := by
  have e1 := (ok.bg (show i ≤ m by omega)).1
  have e2 := (ok.bg (show i + 1 ≤ m by omega)).1
  refine whF_none _ fun k hk h1 h2 h3 => ?_
  have := ok.once hi h1 h2 (k' := beg bs i + t) (by omega) (by omega) (by rw [h3, e])
  omega
theorem wh_start {m n : Nat} {bs cs vs : List Int} (ok : SpOk p m n bs cs vs) {i : Nat} (hi : i < m) (c : Nat) : whF bs cs vs i c (beg bs i) = 0 :=
  whF_before bs cs vs i c _ (by have e1 := (ok.bg (show i ≤ m by omega)).1; omega)
theorem wh_end {m n : Nat} {bs cs vs : List Int} (ok : SpOk p m n bs cs vs) {i : Nat} (hi : i < m) (c : Nat) : whF bs cs vs i c (beg bs (i + 1)) = whAt bs cs vs i c := by
  obtain ⟨e2, l2⟩ := ok.bg (show i + 1 ≤ m by omega)
  have := whF_behind bs cs vs i c (t := beg bs (i + 1)) (by omega) (cs.length - beg bs (i + 1))
  rw [Nat.add_sub_cancel' l2] at this
  exact this.symm
/-- the column of a number -/
theorem SpOk.col {m n : Nat} {bs cs vs : List Int} (ok : SpOk p m n bs cs vs) {i t : Nat} (hi : i < m) (ht : beg bs i + t < beg bs (i + 1)) : ∃ e : Nat, cs.getD (beg bs i + t) 0 = e ∧ e < n := by
  have e1 := (ok.bg (show i ≤ m by omega)).1
  have e2 := (ok.bg (show i + 1 ≤ m by omega)).1
  obtain ⟨_, c2, c3, _⟩ := ok.row i hi (beg bs i + t) (by omega) (by omega)
  exact ⟨(cs.getD (beg bs i + t) 0).toNat, by omega, by omega⟩
/-- a row's sum, over its columns or over its numbers -/
theorem row_sum {m n : Nat} {bs cs vs : List Int} (ok : SpOk p m n bs cs vs) {i : Nat} (hi : i < m) (y : Nat → Int) : ∀ t : Nat, beg bs i + t ≤ beg bs (i + 1) →
    (sm n fun c => whF bs cs vs i c (beg bs i + t) * y c) = sm t fun s => vs.getD (beg bs i + s) 0 * y (cs.getD (beg bs i + s) 0).toNat
  | 0, _ => by
    show _ = 0
    exact sm_zero fun c _ => by rw [Nat.add_zero, wh_start ok hi, Int.zero_mul]
  | t + 1, h => by
    obtain ⟨e, he, hen⟩ := ok.col hi (t := t) (by omega)
    show _ = (sm t fun s => vs.getD (beg bs i + s) 0 * y (cs.getD (beg bs i + s) 0).toNat) + vs.getD (beg bs i + t) 0 * y (cs.getD (beg bs i + t) 0).toNat
    rw [← row_sum ok hi y t (by omega), he, Int.toNat_natCast, ← sm_single (fun _ => vs.getD (beg bs i + t) 0 * y e) hen, ← sm_add]
    refine sm_congr fun c _ => ?_
    rw [← Nat.add_assoc, wh_step ok hi (by omega) c, he]
    by_cases ec : c = e
    · subst ec
      rw [if_pos rfl, if_pos rfl, wh_fresh ok hi (by omega) he, Int.zero_mul, Int.zero_add]
    · rw [if_neg (by omega), if_neg ec, Int.add_zero]
/-- a right thin matrix, whole -/
def wholeL (m n : Nat) (bs cs vs : List Int) : List Int := grid m n (whAt bs cs vs)
theorem wh_rng {m n : Nat} {bs cs vs : List Int} (hp : 2 ≤ p) (hv : Rng p vs) (i c : Nat) : ∀ N : Nat, 0 ≤ whF bs cs vs i c N ∧ whF bs cs vs i c N < p
  | 0 => ⟨Int.le_refl _, by show (0 : Int) < p; omega⟩
  | N + 1 => by
    rw [whF]
    split
    · exact hv.getD hp _
    · exact wh_rng (m := m) (n := n) hp hv i c N
/-- the row's dot product -/
theorem dot_row {m n : Nat} {bs cs vs ys met : List Int} (ok : SpOk p m n bs cs vs) {i : Nat} (hi : i < m) (hm : met.length = beg bs (i + 1) - beg bs i) (hmet : ∀ k, k < met.length → met.getD k 0 = ys.getD (cs.getD (beg bs i + k) 0).toNat 0) :
    dotZ (seg vs (beg bs i) (beg bs (i + 1))) met % p = dv p n (fun c => (wholeL m n bs cs vs).getD (i * n + c) 0) fun c => ys.getD c 0 := by
  have hble := ok.ble hi
  obtain ⟨_, l2⟩ := ok.bg (show i + 1 ≤ m by omega)
  have hl : (seg vs (beg bs i) (beg bs (i + 1))).length = met.length := by rw [seg_len (by rw [← ok.lc]; exact l2), hm]
  rw [dotZ_sm _ _ hl, hl, hm]
  unfold dv
  have e := row_sum ok hi (fun c => ys.getD c 0) (beg bs (i + 1) - beg bs i) (by omega)
  rw [Nat.add_sub_cancel' hble] at e
  rw [sm_congr (g := fun c => whF bs cs vs i c (beg bs (i + 1)) * ys.getD c 0) (n := n) fun c hc => by
    show (grid m n (whAt bs cs vs)).getD (i * n + c) 0 * ys.getD c 0 = _
    rw [grid_get _ hi hc, wh_end ok hi], e]
  congr 1
  refine sm_congr fun s hs => ?_
  rw [seg_get _ _ _ _ hs, hmet s (by rw [hm]; exact hs)]
end Go.Proofs.Ytnfnommiabalfaa
/- Thin matrices: each right whole matrix has one (in plain Lean; nothing of a program). -/
namespace Go.Proofs.Ytnfnommiabalfaa
variable {p : Int}

/-- how many of the first t numbers aren't 0 -/
def nz (xs : List Int) (t : Nat) : Nat := (thV xs t).length
theorem nz_zero (xs : List Int) : nz xs 0 = 0 := rfl
theorem nz_succ (xs : List Int) (t : Nat) : nz xs (t + 1) = if xs.getD t 0 = 0 then nz xs t else nz xs t + 1 := by
  unfold nz; rw [thV]; split
  · rfl
  · rw [List.length_append]; rfl
theorem nz_le (xs : List Int) (s : Nat) : ∀ d, nz xs s ≤ nz xs (s + d)
  | 0 => Nat.le_refl _
  | d + 1 => by
    have := nz_le xs s d
    rw [← Nat.add_assoc, nz_succ]
    split <;> omega
theorem nz_mono (xs : List Int) {s t : Nat} (h : s ≤ t) : nz xs s ≤ nz xs t := by
  have := nz_le xs s (t - s)
  rwa [Nat.add_sub_cancel' h] at this
theorem nz_lt (xs : List Int) {s t : Nat} (h : s < t) (hx : xs.getD s 0 ≠ 0) : nz xs s < nz xs t := by
  have := nz_mono xs (show s + 1 ≤ t from h)
  rw [nz_succ, if_neg hx] at this
  omega
/-- the number behind the k-th that isn't 0 -/
theorem thV_at (xs : List Int) (n : Nat) : ∀ (t s : Nat), s < t → xs.getD s 0 ≠ 0 → (thV xs t).getD (nz xs s) 0 = xs.getD s 0 ∧ (thC xs n t).getD (nz xs s) 0 = ((s % n : Nat) : Int)
  | 0, s, h, _ => absurd h (Nat.not_lt_zero _)
  | t + 1, s, h, hx => by
    have hl := thC_len xs n t
    rw [thV, thC]
    by_cases e : s = t
    · subst e
      rw [if_neg hx, if_neg hx]
      constructor
      · simp [List.getD, nz]
      · unfold nz; rw [← hl]; simp [List.getD]
    · have ih := thV_at xs n t s (by omega) hx
      split
      · exact ih
      · have h1 : nz xs s < (thV xs t).length := nz_lt xs (show s < t by omega) hx
        constructor
        · rw [← ih.1]; simp [List.getD, List.getElem?_append_left h1]
        · rw [← ih.2]; simp [List.getD, List.getElem?_append_left (hl ▸ h1)]
theorem nz_find (xs : List Int) : ∀ (t k : Nat), k < nz xs t → ∃ s, s < t ∧ xs.getD s 0 ≠ 0 ∧ nz xs s = k
  | 0, k, h => absurd h (Nat.not_lt_zero _)
  | t + 1, k, h => by
    rw [nz_succ] at h
    by_cases e : xs.getD t 0 = 0
    · rw [if_pos e] at h
      obtain ⟨s, h1, h2, h3⟩ := nz_find xs t k h
      exact ⟨s, by omega, h2, h3⟩
    · rw [if_neg e] at h
      by_cases ek : k = nz xs t
      · exact ⟨t, by omega, e, ek.symm⟩
      · obtain ⟨s, h1, h2, h3⟩ := nz_find xs t k (by omega)
        exact ⟨s, by omega, h2, h3⟩
theorem thV_mem (xs : List Int) : ∀ (t : Nat), t ≤ xs.length → ∀ x ∈ thV xs t, x ∈ xs
  | 0, _, x, h => by cases h
  | t + 1, ht, x, h => by
    rw [thV] at h
    split at h
    · exact thV_mem xs t (by omega) x h
    · rcases List.mem_append.1 h with h | h
      · exact thV_mem xs t (by omega) x h
      · rw [List.mem_singleton] at h
        subst h
        have e : xs.getD t 0 = xs[t] := by simp [List.getD, List.getElem?_eq_getElem (show t < xs.length by omega)]
        rw [e]; exact List.getElem_mem _
theorem nz_len (xs : List Int) (t : Nat) : nz xs t ≤ t := by
  induction t with
  | zero => exact Nat.le_refl _
  | succ t ih => rw [nz_succ]; split <;> omega
/-- where the rows begin -/
def thB (xs : List Int) (m n : Nat) : List Int := tab (m + 1) fun i => (nz xs (i * n) : Int)
theorem thB_get (xs : List Int) {m n i : Nat} (h : i ≤ m) : (thB xs m n).getD i 0 = nz xs (i * n) := tab_get _ (by omega)
/-- position k of row i stands for a place of that row -/
theorem row_find (xs : List Int) {n i k : Nat} (h1 : nz xs (i * n) ≤ k) (h2 : k < nz xs ((i + 1) * n)) : ∃ c, c < n ∧ xs.getD (i * n + c) 0 ≠ 0 ∧ nz xs (i * n + c) = k := by
  obtain ⟨s, hs, hx, hk⟩ := nz_find xs _ k h2
  rw [Nat.succ_mul] at hs
  have hge : i * n ≤ s := by
    rcases Nat.lt_or_ge s (i * n) with h | h
    · have := nz_lt xs h hx; omega
    · exact h
  exact ⟨s - i * n, by omega, by rw [Nat.add_sub_cancel' hge]; exact hx, by rw [Nat.add_sub_cancel' hge]; exact hk⟩
theorem thin_ok {m n : Nat} {xs : List Int} (hm : 1 ≤ m ∧ m ≤ 64) (hn : 1 ≤ n ∧ n ≤ 64) (hl : xs.length = m * n) (hx : hasB p xs = true) : SpOk p m n (thB xs m n) (thC xs n (m * n)) (thV xs (m * n)) where
  m1 := hm
  n1 := hn
  lb := tab_len _ _
  lc := thC_len _ _ _
  hv := hasB_sub hx fun y hy => thV_mem xs _ (by omega) y hy
  b0 := by rw [thB_get xs (Nat.zero_le _), Nat.zero_mul]; rfl
  bm := by rw [thB_get xs (Nat.le_refl _), thC_len]; rfl
  mono := fun i hi => by
    rw [thB_get xs (by omega), thB_get xs (by omega)]
    have := nz_mono xs (show i * n ≤ (i + 1) * n from Nat.mul_le_mul_right _ (by omega))
    omega
  row := fun i hi k h1 h2 => by
    rw [thB_get xs (by omega)] at h1
    rw [thB_get xs (by omega)] at h2
    obtain ⟨c, hc, hc0, hk⟩ := row_find xs (by omega) (show k < nz xs ((i + 1) * n) by omega)
    obtain ⟨e1, e2⟩ := thV_at xs n (m * n) (i * n + c) (at_lt hi hc) hc0
    rw [hk] at e1 e2
    rw [at_mod hc] at e2
    refine ⟨by rw [e1]; exact hc0, by rw [e2]; omega, by rw [e2]; omega, fun hb => ?_⟩
    rw [thB_get xs (by omega)] at hb
    obtain ⟨c', hc', hc0', hk'⟩ := row_find xs (n := n) (i := i) (k := k - 1) (by omega) (by omega)
    obtain ⟨_, e2'⟩ := thV_at xs n (m * n) (i * n + c') (at_lt hi hc') hc0'
    rw [hk', at_mod hc'] at e2'
    rw [e2, e2']
    rcases Nat.lt_or_ge c' c with h | h
    · omega
    · have := nz_mono xs (show i * n + c ≤ i * n + c' by omega)
      omega
theorem thin_whole {m n : Nat} {xs : List Int} (hm : 1 ≤ m ∧ m ≤ 64) (hn : 1 ≤ n ∧ n ≤ 64) (hl : xs.length = m * n) (hx : hasB p xs = true) {i c : Nat} (hi : i < m) (hc : c < n) : xs.getD (i * n + c) 0 = whAt (thB xs m n) (thC xs n (m * n)) (thV xs (m * n)) i c := by
  have ok := thin_ok (p := p) hm hn hl hx
  by_cases e : xs.getD (i * n + c) 0 = 0
  · rw [e]
    refine (whF_miss (fun k h1 h2 h3 => ?_) _).symm
    rw [thB_get xs (by omega)] at h1
    rw [thB_get xs (by omega)] at h2
    obtain ⟨c', hc', hc0', hk'⟩ := row_find xs (n := n) (i := i) (k := k) (by omega) (by omega)
    obtain ⟨_, e2⟩ := thV_at xs n (m * n) (i * n + c') (at_lt hi hc') hc0'
    rw [hk', at_mod hc', h3] at e2
    obtain rfl : c = c' := by omega
    exact hc0' e
  · obtain ⟨e1, e2⟩ := thV_at xs n (m * n) (i * n + c) (at_lt hi hc) e
    rw [at_mod hc] at e2
    have h1 : (thB xs m n).getD i 0 ≤ (nz xs (i * n + c) : Int) := by
      rw [thB_get xs (by omega)]
      have := nz_mono xs (show i * n ≤ i * n + c by omega)
      omega
    have h2 : (nz xs (i * n + c) : Int) < (thB xs m n).getD (i + 1) 0 := by
      rw [thB_get xs (by omega)]
      have := nz_lt xs (show i * n + c < (i + 1) * n by rw [Nat.succ_mul]; omega) e
      omega
    have hN : nz xs (i * n + c) < (thC xs n (m * n)).length := by
      rw [thC_len]; exact nz_lt xs (at_lt hi hc) e
    exact (e1.symm.trans (whF_hit h1 h2 e2 (fun k h3 h4 h5 => ok.once hi h3 h4 h1 h2 (by rw [h5, e2])) _ hN).symm)
/-- each right thin matrix is the thin form of its whole one -/
theorem thin_eq {m n : Nat} {bs cs vs xs : List Int} (ok : SpOk p m n bs cs vs) (hx : ∀ i c, i < m → c < n → xs.getD (i * n + c) 0 = whAt bs cs vs i c) : bs = thB xs m n ∧ cs = thC xs n (m * n) ∧ vs = thV xs (m * n) := by
  have h := thin_unique ok hx
  obtain ⟨_, h2, h3⟩ := h m (Nat.le_refl _)
  rw [ok.bm] at h2 h3
  refine ⟨?_, ?_, ?_⟩
  · refine list_ext (by rw [ok.lb]; exact (tab_len _ _).symm) fun k hk => ?_
    rw [ok.lb] at hk
    rw [thB_get xs (by omega)]
    exact (h k (by omega)).1
  · rw [h3]; simp
  · rw [h2, Int.toNat_natCast, ok.lc]; simp
/-- and the whole one is right -/
theorem whole_eq {m n : Nat} {xs : List Int} (hm : 1 ≤ m ∧ m ≤ 64) (hn : 1 ≤ n ∧ n ≤ 64) (hl : xs.length = m * n) (hx : hasB p xs = true) : grid m n (whAt (thB xs m n) (thC xs n (m * n)) (thV xs (m * n))) = xs := by
  refine list_ext (by rw [hl]; exact tab_len _ _) fun k hk => ?_
  have hk' : k < m * n := by rw [show (grid m n (whAt (thB xs m n) (thC xs n (m * n)) (thV xs (m * n)))).length = m * n from tab_len _ _] at hk; exact hk
  have h0 : 0 < n := by omega
  have hd : k / n < m := (Nat.div_lt_iff_lt_mul h0).2 hk'
  have hr : k % n < n := Nat.mod_lt _ h0
  have e := thin_whole (p := p) hm hn hl hx hd hr
  rw [Nat.div_add_mod' k n] at e
  rw [e]
  exact tab_get _ hk'
end Go.Proofs.Ytnfnommiabalfaa
/- What is right stays right: products, thin forms (in plain Lean; nothing of a program). -/
namespace Go.Proofs.Ytnfnommiabalfaa
variable {p : Int}
theorem MatOk.mul {m n q : Nat} {xs ys : List Int} (h : MatOk p m n xs) (k : MatOk p n q ys) : MatOk p m q (mulL p m n q xs ys) :=
  ⟨h.hp, mulL_rng (rightB_true h.hp).1 _ _ _ _ _, h.hm, k.hn, mulL_len _ _ _ _ _⟩
theorem spOk_of {m n : Nat} {xs : List Int} (h : MatOk p m n xs) : SpOk p m n (thB xs m n) (thC xs n (m * n)) (thV xs (m * n)) := thin_ok h.hm h.hn h.hl (h.hx.has h.hp)
theorem whole_of {m n : Nat} {xs : List Int} (h : MatOk p m n xs) : wholeL m n (thB xs m n) (thC xs n (m * n)) (thV xs (m * n)) = xs := whole_eq h.hm h.hn h.hl (h.hx.has h.hp)
theorem thV_rng {m n : Nat} {xs : List Int} (h : MatOk p m n xs) : Rng p (thV xs (m * n)) := fun x hx => h.hx x (thV_mem xs _ (by rw [h.hl]; exact Nat.le_refl _) x hx)
theorem MatOk.oneR {m n : Nat} {xs : List Int} (h : MatOk p m n xs) : MatOk p m m (oneL m) := ⟨h.hp, oneL_rng (rightB_true h.hp).1 m, h.hm, h.hm, oneL_len m⟩
theorem MatOk.oneC {m n : Nat} {xs : List Int} (h : MatOk p m n xs) : MatOk p n n (oneL n) := ⟨h.hp, oneL_rng (rightB_true h.hp).1 n, h.hn, h.hn, oneL_len n⟩
theorem rng_of {xs : List Int} (h : U64s xs) (k : hasB p xs = true) : Rng p xs := fun x hx => ⟨(h x hx).1, (hasB_true k).2 x hx⟩
end Go.Proofs.Ytnfnommiabalfaa
/- Claims in memory: the document's own Grid, Short and Same of them. -/
namespace Go.Proofs.Ytnfnommiabalfaa
open Go.RowKit Go.Maps

/-- a claim in memory -/
structure ClmR (w : World) (rv kv cv uv : Value) (R K : List Int) (C U : List (List Int)) : Prop where
  r : Ints .i64 w rv R
  k : Ints .i64 w kv K
  c : UsL w cv C
  u : UsL w uv U
theorem ClmR.ext {w w' : World} {rv kv cv uv : Value} {R K : List Int} {C U : List (List Int)} (h : ClmR w rv kv cv uv R K C U) (x : Ext w w') : ClmR w' rv kv cv uv R K C U := ⟨h.r.ext x, h.k.ext x, h.c.ext x, h.u.ext x⟩
theorem rows_ext {xs ys : List (List Int)} (hl : xs.length = ys.length) (h : ∀ j, j < xs.length → xs.getD j [] = ys.getD j []) : xs = ys := by
  refine List.ext_getElem hl fun j hj hj' => ?_
  have := h j hj
  simpa [List.getD, hj, hj'] using this
set_option maxHeartbeats 1000000 in
theorem r7Grid (v u : Value) (xs ys : List (List Int)) (w : World) (hv : UsL w v xs) (hu : UsL w u ys) :
    Calls Try.prog 45 #[v, u] w (Ret (.bool (decide (xs = ys))) w) := by
  obtain ⟨a, cap, rfl, h1, h2, h3⟩ := hv
  obtain ⟨a', cap', rfl, k1, k2, k3⟩ := hu
  have H3 := hid h3; have K3 := hid k3
  clear h3 k3
  obtain ⟨D, hD⟩ : ∃ D, decide (xs = ys) = D := ⟨_, rfl⟩
  rw [hD]
  by_cases hl : xs.length = ys.length
  · have b1 : ((xs.length : Int) != (ys.length : Int)) = false := by rw [hl]; simp
    have HD := hid hD
    have Hl := hid hl
    obtain ⟨L, hL⟩ : ∃ L, ys.length = L := ⟨_, rfl⟩
    have HL := hid hL
    rw [hl] at H3 h1 b1 ⊢
    rw [hL] at H3 K3 h1 k1 b1 ⊢
    clear hl hL hD
    go_enter Try.func45, Try.ntmps45
    go_wp2_with fail
    go_loopw [5] (fun i wr => ∃ k : Nat, i = .int .i64 k ∧ k ≤ L ∧ Hid (∀ j, j < k → xs.getD j [] = ys.getD j []) ∧ Ext w wr) (fun i _ => L - (intOf i).toNat)
    case atStart => exact ⟨0, rfl, Nat.zero_le _, hid (fun j hj => absurd hj (Nat.not_lt_zero _)), Ext.refl _⟩
    case round =>
      obtain ⟨k, rfl, hk, hall, hw⟩ := hrel
      rename World => wr
      by_cases hlt : k < L
      · obtain ⟨b, off, rfl, hb, hc⟩ := H3.out (by omega)
        obtain ⟨b', off', rfl, hb', hc'⟩ := K3.out (by omega)
        obtain ⟨u1, g1, i1⟩ := hc k hlt
        obtain ⟨u2, g2, i2⟩ := hc' k hlt
        replace g1 := (hw.cells _ _ hb).trans g1
        replace g2 := (hw.cells _ _ hb').trans g2
        have g1d := ((Ext.refl wr).drew.cells _ _ (Nat.lt_of_lt_of_le hb hw.size)).trans g1
        have g2d := ((Ext.refl wr).drew.cells _ _ (Nat.lt_of_lt_of_le hb' hw.size)).trans g2
        obtain ⟨x, ex⟩ : ∃ x, xs.getD k [] = x := ⟨_, rfl⟩
        obtain ⟨y, ey⟩ : ∃ y, ys.getD k [] = y := ⟨_, rfl⟩
        rw [ex] at i1; rw [ey] at i2
        have Ex := hid ex; have Ey := hid ey
        have C := hid fun (W : World) (hW : Ext wr W) => same_any u1 u2 x y W (i1.ext (hw.trans hW)) (i2.ext (hw.trans hW))
        obtain ⟨B, hB⟩ : ∃ B, decide (x = y) = B := ⟨_, rfl⟩
        rw [hB] at C
        have HB := hid hB
        obtain ⟨q1, c1, rfl, -, -, -⟩ := i1
        obtain ⟨q2, c2, rfl, -, -, -⟩ := i2
        have j1 : (k : Int) < (L : Int) := by omega
        have j0 : (0 : Int) ≤ (k : Int) := by omega
        clear hc hc' ex ey hB
        go_wp2_with fail
        go_region_law (go_simp; go_at_call 23; refine (C.out _ (by repeat (first | exact Ext.refl _ | assumption | refine Ext.drew ?_ | refine Ext.drewN ?_ _ | refine Ext.alloc ?_ _ | refine Ext.trans ?_ (by assumption)))).mono ?_; rintro _ w5 ⟨rfl, x5⟩; have y5 : Ext wr w5 := Ext.trans (by repeat (first | exact Ext.refl _ | assumption | refine Ext.drew ?_ | refine Ext.drewN ?_ _ | refine Ext.alloc ?_ _ | refine Ext.trans ?_ (by assumption))) x5)
        all_goals
          cases B
          · go_wp2_with fail
            go_ret
            refine ⟨ret_bool ?_, hw.trans y5⟩
            rw [← HD.out]
            symm
            exact decide_eq_false (fun e => of_decide_eq_false HB.out (by rw [← Ex.out, ← Ey.out, e]))
          · go_wp2_with fail
            go_roundw
            case rel => exact ⟨k + 1, by go_num, by omega, hid (fun j hj => by
              by_cases e : j = k
              · rw [e, Ex.out, Ey.out]; exact of_decide_eq_true HB.out
              · exact hall.out j (by omega)), hw.trans y5⟩
            case measure => simp [intOf]; omega
      · obtain rfl : L = k := by omega
        go_wp2_with fail
        go_ret
        refine ⟨ret_bool ?_, hw⟩
        rw [← HD.out]
        symm
        exact decide_eq_true (rows_ext Hl.out fun j hj => hall.out j (by rw [← HL.out, ← Hl.out]; exact hj))
  · have b1 : ((xs.length : Int) != (ys.length : Int)) = true := by simp; omega
    have e : D = false := by rw [← hD]; exact decide_eq_false (fun e => hl (by rw [e]))
    subst e
    clear hl hD
    go_enter Try.func45, Try.ntmps45
    go_wp2_with fail
    go_ret
    exact ⟨rfl, (by repeat (first | exact Ext.refl _ | assumption | refine Ext.drew ?_ | refine Ext.drewN ?_ _ | refine Ext.alloc ?_ _ | refine Ext.trans ?_ (by assumption)))⟩
/-- are rows short? -/
def rows70 (ls : List (List Int)) : Bool := decide (∀ j, j < ls.length → (ls.getD j []).length ≤ 70)
set_option maxHeartbeats 1000000 in
theorem r7Short (rv kv cv uv : Value) (C U : List (List Int)) (w : World) (hc : UsL w cv C) (hu : UsL w uv U) (hr : ∃ a n c, rv = .slice a n c) (hk : ∃ a n c, kv = .slice a n c) :
    Calls Try.prog 25 #[.agg #[rv, kv, cv, uv]] w (Ret (.bool ((decide (C.length ≤ 70) && decide (U.length ≤ 20)) && (rows70 C && rows70 U))) w) := by
  obtain ⟨ar, nr, cr, rfl⟩ := hr
  obtain ⟨ak, nk, ck, rfl⟩ := hk
  obtain ⟨a, cap, rfl, h1, h2, h3⟩ := hc
  obtain ⟨a', cap', rfl, k1, k2, k3⟩ := hu
  have H3 := hid h3; have K3 := hid k3
  clear h3 k3
  obtain ⟨RC, eRC⟩ : ∃ B, rows70 C = B := ⟨_, rfl⟩
  obtain ⟨RU, eRU⟩ : ∃ B, rows70 U = B := ⟨_, rfl⟩
  obtain ⟨nc, enc⟩ : ∃ n, C.length = n := ⟨_, rfl⟩
  obtain ⟨nu, enu⟩ : ∃ n, U.length = n := ⟨_, rfl⟩
  have HRC := hid eRC; have HRU := hid eRU; have Hnc := hid enc; have Hnu := hid enu
  rw [eRC, eRU, enc, enu]
  rw [enc] at H3 h1
  rw [enu] at K3 k1
  clear eRC eRU enc enu
  have hB := hid (Blk.new w 29 #[.slice ar nr cr, .slice ak nk ck, .slice a nc cap, .slice a' nu cap'])
  obtain ⟨b0, b1, b2, b3⟩ := hB.out.at4
  have HX := hid ((Ext.refl w).alloc (.cells #[.slice ar nr cr, .slice ak nk ck, .slice a nc cap, .slice a' nu cap'] 29))
  by_cases c1 : nc ≤ 70
  · rw [decide_eq_true c1, Bool.true_and]
    by_cases c2 : nu ≤ 20
    · rw [decide_eq_true c2, Bool.true_and]
      go_enter Try.func25, Try.ntmps25
      go_wp2_with fail
      obtain ⟨w1, hw1⟩ : ∃ w1, w.alloc (.cells #[.slice ar nr cr, .slice ak nk ck, .slice a nc cap, .slice a' nu cap'] 29) = w1 := ⟨_, rfl⟩
      rw [hw1] at hB HX
      rw [hw1]
      clear hw1 b0 b1 b2 b3
      go_loopw [3] (fun i wr => ∃ k : Nat, i = .int .i64 k ∧ k ≤ nc ∧ Hid (∀ j, j < k → (C.getD j []).length ≤ 70) ∧ Ext w1 wr) (fun i _ => nc - (intOf i).toNat)
      case atStart => exact ⟨0, rfl, Nat.zero_le _, hid (fun j hj => absurd hj (Nat.not_lt_zero _)), Ext.refl _⟩
      case round =>
        obtain ⟨k, rfl, hk, hall, hw⟩ := hrel
        rename World => wr
        obtain ⟨b0, b1, b2, b3⟩ := (hB.out.ext hw).at4
        by_cases hlt : k < nc
        · obtain ⟨b, off, rfl, hb, hcl⟩ := H3.out (by omega)
          obtain ⟨u1, g1, i1⟩ := hcl k hlt
          replace g1 := ((HX.out.trans hw).cells _ _ hb).trans g1
          obtain ⟨q, eq⟩ : ∃ q, (C.getD k []).length = q := ⟨_, rfl⟩
          have Eq := hid eq
          obtain ⟨q1, c1', rfl, -, -, -⟩ := i1
          rw [eq] at g1
          clear hcl eq
          by_cases hq : q ≤ 70
          · go_wp2_with fail
            go_roundw
            case rel => exact ⟨k + 1, by go_num, by omega, hid (fun j hj => by
              by_cases e : j = k
              · rw [e, Eq.out]; exact hq
              · exact hall.out j (by omega)), hw⟩
            case measure => simp [intOf]; omega
          · have e : RC = false := by rw [← HRC.out]; exact decide_eq_false (fun h => hq (by rw [← Eq.out]; exact h k (by rw [Hnc.out]; exact hlt)))
            subst e
            go_wp2_with fail
            go_ret
            exact ⟨ret_bool (by simp), HX.out.trans hw⟩
        · obtain rfl : nc = k := by omega
          have e : RC = true := by rw [← HRC.out]; exact decide_eq_true (fun j hj => hall.out j (by rw [← Hnc.out]; exact hj))
          subst e
          go_wp2_with fail
          clear b0 b1 b2 b3
          obtain ⟨w2, hw2⟩ : ∃ w2, wr = w2 := ⟨_, rfl⟩
          rw [hw2] at hw
          rw [hw2]
          clear hw2
          go_loopw [4] (fun i wr => ∃ k : Nat, i = .int .i64 k ∧ k ≤ nu ∧ Hid (∀ j, j < k → (U.getD j []).length ≤ 70) ∧ Ext w1 wr) (fun i _ => nu - (intOf i).toNat)
          case atStart => exact ⟨0, rfl, Nat.zero_le _, hid (fun j hj => absurd hj (Nat.not_lt_zero _)), hw⟩
          case round =>
            obtain ⟨k, rfl, hk, hall, hw⟩ := hrel
            rename World => wr
            obtain ⟨b0, b1, b2, b3⟩ := (hB.out.ext hw).at4
            by_cases hlt : k < nu
            · obtain ⟨b, off, rfl, hb, hcl⟩ := K3.out (by omega)
              obtain ⟨u1, g1, i1⟩ := hcl k hlt
              replace g1 := ((HX.out.trans hw).cells _ _ hb).trans g1
              obtain ⟨q, eq⟩ : ∃ q, (U.getD k []).length = q := ⟨_, rfl⟩
              have Eq := hid eq
              obtain ⟨q1, c1', rfl, -, -, -⟩ := i1
              rw [eq] at g1
              clear hcl eq
              by_cases hq : q ≤ 70
              · go_wp2_with fail
                go_roundw
                case rel => exact ⟨k + 1, by go_num, by omega, hid (fun j hj => by
                  by_cases e : j = k
                  · rw [e, Eq.out]; exact hq
                  · exact hall.out j (by omega)), hw⟩
                case measure => simp [intOf]; omega
              · have e : RU = false := by rw [← HRU.out]; exact decide_eq_false (fun h => hq (by rw [← Eq.out]; exact h k (by rw [Hnu.out]; exact hlt)))
                subst e
                go_wp2_with fail
                go_ret
                exact ⟨ret_bool (by simp), HX.out.trans hw⟩
            · obtain rfl : nu = k := by omega
              have e : RU = true := by rw [← HRU.out]; exact decide_eq_true (fun j hj => hall.out j (by rw [← Hnu.out]; exact hj))
              subst e
              go_wp2_with fail
              go_ret
              exact ⟨ret_bool (by simp), HX.out.trans hw⟩
    · rw [decide_eq_false c2, Bool.false_and]
      go_enter Try.func25, Try.ntmps25
      go_wp2_with fail
      go_ret
      exact ⟨rfl, HX.out⟩
  · rw [decide_eq_false c1, Bool.false_and, Bool.false_and]
    go_enter Try.func25, Try.ntmps25
    go_wp2_with fail
    go_ret
    exact ⟨rfl, HX.out⟩
end Go.Proofs.Ytnfnommiabalfaa
/- The document's own answers: are two claims the same, is one short? -/
namespace Go.Proofs.Ytnfnommiabalfaa
open Go.RowKit Go.Maps

theorem ClmR.slices {w : World} {rv kv cv uv : Value} {R K : List Int} {C U : List (List Int)} (h : ClmR w rv kv cv uv R K C U) :
    (∃ a c, rv = .slice a R.length c) ∧ (∃ a c, kv = .slice a K.length c) ∧ (∃ a c, cv = .slice a C.length c) ∧ (∃ a c, uv = .slice a U.length c) := by
  obtain ⟨⟨a1, c1, h1, -⟩, ⟨a2, c2, h2, -⟩, ⟨a3, c3, h3, -⟩, ⟨a4, c4, h4, -⟩⟩ := h
  exact ⟨⟨a1, c1, h1⟩, ⟨a2, c2, h2⟩, ⟨a3, c3, h3⟩, ⟨a4, c4, h4⟩⟩
def sameC (R K : List Int) (C U : List (List Int)) (R' K' : List Int) (C' U' : List (List Int)) : Bool := decide (R = R') && (decide (K = K') && (decide (C = C') && decide (U = U')))
theorem sameC_iff {R K : List Int} {C U : List (List Int)} {R' K' : List Int} {C' U' : List (List Int)} : sameC R K C U R' K' C' U' = true ↔ R = R' ∧ K = K' ∧ C = C' ∧ U = U' := by simp [sameC]
set_option maxRecDepth 100000 in
set_option maxHeartbeats 1000000 in
theorem r13Same (rv kv cv uv rv' kv' cv' uv' : Value) (R K : List Int) (C U : List (List Int)) (R' K' : List Int) (C' U' : List (List Int)) (w : World) (h : ClmR w rv kv cv uv R K C U) (h' : ClmR w rv' kv' cv' uv' R' K' C' U') :
    Calls Try.prog 15 #[.agg #[rv, kv, cv, uv], .agg #[rv', kv', cv', uv']] w (Ret (.bool (sameC R K C U R' K' C' U')) w) := by
  have C1 := hid fun (W : World) (hW : Ext w W) => r6Same rv rv' R R' W (h.r.ext hW) (h'.r.ext hW)
  have C2 := hid fun (W : World) (hW : Ext w W) => r6Same kv kv' K K' W (h.k.ext hW) (h'.k.ext hW)
  have C3 := hid fun (W : World) (hW : Ext w W) => r7Grid cv cv' C C' W (h.c.ext hW) (h'.c.ext hW)
  have C4 := hid fun (W : World) (hW : Ext w W) => r7Grid uv uv' U U' W (h.u.ext hW) (h'.u.ext hW)
  unfold sameC
  obtain ⟨B1, e1⟩ : ∃ B, decide (R = R') = B := ⟨_, rfl⟩
  obtain ⟨B2, e2⟩ : ∃ B, decide (K = K') = B := ⟨_, rfl⟩
  obtain ⟨B3, e3⟩ : ∃ B, decide (C = C') = B := ⟨_, rfl⟩
  obtain ⟨B4, e4⟩ : ∃ B, decide (U = U') = B := ⟨_, rfl⟩
  rw [e1] at C1 ⊢
  rw [e2] at C2 ⊢
  rw [e3] at C3 ⊢
  rw [e4] at C4 ⊢
  clear e1 e2 e3 e4
  obtain ⟨⟨a1, k1, rfl⟩, ⟨a2, k2, rfl⟩, ⟨a3, k3, rfl⟩, ⟨a4, k4, rfl⟩⟩ := h.slices
  obtain ⟨⟨a1', k1', rfl⟩, ⟨a2', k2', rfl⟩, ⟨a3', k3', rfl⟩, ⟨a4', k4', rfl⟩⟩ := h'.slices
  clear h h'
  have hB := hid (boxes2 w 29 29 #[.slice a1 R.length k1, .slice a2 K.length k2, .slice a3 C.length k3, .slice a4 U.length k4] #[.slice a1' R'.length k1', .slice a2' K'.length k2', .slice a3' C'.length k3', .slice a4' U'.length k4'])
  obtain ⟨p0, p1, p2, p3⟩ := hB.out.1.at4
  obtain ⟨q0, q1, q2, q3⟩ := hB.out.2.1.at4
  go_enter Try.func15, Try.ntmps15
  go_wp2_with fail
  refine (C1.out _ hB.out.2.2).mono ?_
  rintro _ w1 ⟨rfl, x1⟩
  clear p0 p1 p2 p3 q0 q1 q2 q3
  cases B1
  · go_wp2_with fail
    go_ret
    exact ⟨ret_bool (by simp), hB.out.2.2.trans x1⟩
  obtain ⟨p0, p1, p2, p3⟩ := (hB.out.1.ext x1).at4
  obtain ⟨q0, q1, q2, q3⟩ := (hB.out.2.1.ext x1).at4
  go_wp2_with fail
  clear p0 p1 p2 p3 q0 q1 q2 q3
  refine (C2.out _ (hB.out.2.2.trans x1)).mono ?_
  rintro _ w2 ⟨rfl, x2⟩
  cases B2
  · go_wp2_with fail
    go_ret
    exact ⟨ret_bool (by simp), (hB.out.2.2.trans x1).trans x2⟩
  obtain ⟨p0, p1, p2, p3⟩ := (hB.out.1.ext (x1.trans x2)).at4
  obtain ⟨q0, q1, q2, q3⟩ := (hB.out.2.1.ext (x1.trans x2)).at4
  go_wp2_with fail
  clear p0 p1 p2 p3 q0 q1 q2 q3
  refine (C3.out _ ((hB.out.2.2.trans x1).trans x2)).mono ?_
  rintro _ w3 ⟨rfl, x3⟩
  have x13 := x1.trans (x2.trans x3)
  cases B3
  · go_wp2_with fail
    go_ret
    exact ⟨ret_bool (by simp), hB.out.2.2.trans x13⟩
  obtain ⟨p0, p1, p2, p3⟩ := (hB.out.1.ext x13).at4
  obtain ⟨q0, q1, q2, q3⟩ := (hB.out.2.1.ext x13).at4
  go_wp2_with fail
  clear p0 p1 p2 p3 q0 q1 q2 q3
  refine (C4.out _ (hB.out.2.2.trans x13)).mono ?_
  rintro _ w4 ⟨rfl, x4⟩
  go_wp2_with fail
  go_ret
  exact ⟨ret_bool (by simp), hB.out.2.2.trans (x13.trans x4)⟩
/-- is a claim short? -/
def shortC (R K : List Int) (C U : List (List Int)) : Bool := ((decide (C.length ≤ 70) && decide (U.length ≤ 20)) && (rows70 C && rows70 U)) && (decide (R.length ≤ 70) && decide (K.length ≤ 70))
set_option maxRecDepth 100000 in
set_option maxHeartbeats 1000000 in
theorem r13Short (rv kv cv uv : Value) (R K : List Int) (C U : List (List Int)) (w : World) (h : ClmR w rv kv cv uv R K C U) :
    Calls Try.prog 8 #[.agg #[rv, kv, cv, uv]] w (Ret (.bool (shortC R K C U)) w) := by
  have C1 := hid fun (W : World) (hW : Ext w W) => r7Short rv kv cv uv C U W (h.c.ext hW) (h.u.ext hW) (by obtain ⟨⟨a1, k1, e⟩, -⟩ := h.slices; exact ⟨_, _, _, e⟩) (by obtain ⟨-, ⟨a1, k1, e⟩, -⟩ := h.slices; exact ⟨_, _, _, e⟩)
  unfold shortC
  obtain ⟨B1, e1⟩ : ∃ B, ((decide (C.length ≤ 70) && decide (U.length ≤ 20)) && (rows70 C && rows70 U)) = B := ⟨_, rfl⟩
  rw [e1] at C1 ⊢
  clear e1
  obtain ⟨⟨a1, k1, rfl⟩, ⟨a2, k2, rfl⟩, ⟨a3, k3, rfl⟩, ⟨a4, k4, rfl⟩⟩ := h.slices
  clear h
  obtain ⟨nr, hnr⟩ : ∃ n, R.length = n := ⟨_, rfl⟩
  obtain ⟨nk, hnk⟩ : ∃ n, K.length = n := ⟨_, rfl⟩
  rw [hnr, hnk] at C1 ⊢
  clear hnr hnk
  have hB := hid (Blk.new w 29 #[.slice a1 nr k1, .slice a2 nk k2, .slice a3 C.length k3, .slice a4 U.length k4])
  have HX := hid ((Ext.refl w).alloc (.cells #[.slice a1 nr k1, .slice a2 nk k2, .slice a3 C.length k3, .slice a4 U.length k4] 29))
  obtain ⟨p0, p1, p2, p3⟩ := hB.out.at4
  go_enter Try.func8, Try.ntmps8
  go_wp2_with fail
  refine (C1.out _ HX.out).mono ?_
  rintro _ w1 ⟨rfl, x1⟩
  clear p0 p1 p2 p3
  cases B1
  · go_wp2_with fail
    go_ret
    exact ⟨ret_bool (by simp), HX.out.trans x1⟩
  obtain ⟨p0, p1, p2, p3⟩ := (hB.out.ext x1).at4
  by_cases c1 : nr ≤ 70
  · by_cases c2 : nk ≤ 70
    · go_wp2_with fail
      go_ret
      exact ⟨ret_bool (by simp [c1, c2]; omega), HX.out.trans x1⟩
    · go_wp2_with fail
      go_ret
      exact ⟨ret_bool (by simp [c2]; omega), HX.out.trans x1⟩
  · go_wp2_with fail
    go_ret
    exact ⟨ret_bool (by simp), HX.out.trans x1⟩
end Go.Proofs.Ytnfnommiabalfaa
/- Package cup: what a row is lessened by; the first number that isn't 0; rows of the call's own, apart from one another. -/
namespace Go.Proofs.Ytnfnommiabalfaa
open Go.RowKit Go.Maps

theorem Ext.grownBy {w w' : World} (h : Ext w w') (row : Option Nat) : w.grownBy w' row := ⟨h.os, h.tape, h.output, h.size, fun k hk _ => h.block k hk⟩
theorem Ints.grown {k : IntKind} {w w' : World} {v : Value} {xs : List Int} {row : Option Nat} (h : Ints k w v xs) (hg : w.grownBy w' row) (hne : ∀ b, v.ownBlock = some b → row ≠ some b) : Ints k w' v xs := by
  obtain ⟨a, cap, rfl, h1, h2, h3⟩ := h
  refine ⟨a, cap, rfl, h1, h2, fun hp => ?_⟩
  obtain ⟨b, off, rfl, hb, hc⟩ := h3 hp
  refine ⟨b, off, rfl, Nat.lt_of_lt_of_le hb hg.size, fun j hj => ?_⟩
  rw [World.cell?_of_block (hg.block b hb fun e => hne b rfl e.symm)]
  exact hc j hj
/-- two slices that don't lie in one block -/
def Ap (v u : Value) : Prop := v.ownBlock = none ∨ v.ownBlock ≠ u.ownBlock
theorem Ap.symm {v u : Value} (h : Ap v u) : Ap u v := by
  rcases h with h | h
  · rcases hu : u.ownBlock with _ | k
    · exact .inl hu
    · exact .inr (by rw [h, hu]; simp)
  · exact .inr fun e => h e.symm
/-- an elder row and a younger one lie apart -/
theorem Ap.old {w w' : World} {b b' : Nat} {e e' : TypeId} {s s' n n' : Nat} {v u : Value} {xs ys : List Value} (h : w.ownsRow b e s v n xs) (h' : w'.ownsRow b' e' s' u n' ys) (hb : w.heap.size ≤ b') : Ap v u := by
  rcases hv : v.ownBlock with _ | k
  · exact .inl hv
  · refine .inr fun e => ?_
    rw [hv] at e
    have h1 := (h.lt k hv).2
    have h2 := (h'.lt k e.symm).1
    omega
/-- a row that has grown lies apart from what it lay apart from -/
theorem Ap.grown {w : World} {b : Nat} {e : TypeId} {s n : Nat} {v v' u : Value} {ys : List Value} (h : Ap u v) (hu : w.ownsRow b e s u n ys) (hat : v'.ownBlock = v.ownBlock ∨ v'.ownBlock = some w.heap.size) : Ap u v' := by
  rcases h with h | h
  · exact .inl h
  · rcases hv : u.ownBlock with _ | k
    · exact .inl hv
    · refine .inr fun e => ?_
      rw [hv] at e h
      rcases hat with hat | hat
      · rw [hat] at e; exact h e
      · rw [hat] at e
        have := (hu.lt k hv).2
        injection e with e
        omega
theorem own_put {w : World} {base : Nat} {e ty : TypeId} {g n : Nat} {v : Value} {xs : List Value} {cs : Array Value} (h : w.ownsRow base e 1 v n xs) (hB : Blk w g ty cs) (hty : e ≠ ty) (i : Nat) (u : Value) : (w.setCell ⟨g, i, none⟩ u).ownsRow base e 1 v n xs :=
  h.kept (setCell_grown _ _ _) (ownsRow_blk h hB hty)
theorem map_set_int (l : List Int) (j : Nat) (x : Int) : (l.map (Value.int .u64)).set j (.int .u64 x) = (l.set j x).map (Value.int .u64) := by rw [List.map_set]

set_option maxRecDepth 100000 in
set_option maxHeartbeats 1000000 in
theorem cmLessen (p x : Int) (n base g cap : Nat) (xs us : List Int) (u : Value) (w : World) (hp : rightB p = true) (hx : 0 ≤ x ∧ x < p) (hn : 1 ≤ n) (hn2 : n ≤ 64)
    (hown : w.ownsRow base 22 1 (.slice (some ⟨g, 0, none⟩) n cap) n (xs.map (Value.int .u64))) (hxs : Rng p xs) (hu : Ints .u64 w u us) (hul : us.length = n) (hus : Rng p us) (hne : ∀ k, u.ownBlock = some k → g ≠ k) :
    Calls Try.prog 59 #[.int .u64 p, .slice (some ⟨g, 0, none⟩) n cap, .int .u64 x, u] w fun e w' => e = .returned (.tuple #[]) ∧
      w'.ownsRow base 22 1 (.slice (some ⟨g, 0, none⟩) n cap) n ((tab n fun j => (xs.getD j 0 - x * us.getD j 0 % p) % p).map (Value.int .u64)) ∧ w.grownBy w' (some g) := by
  have hp2 := rightB_true hp
  have HP := hid hp
  have Hxs := hid hxs; have Hus := hid hus
  have hxl : xs.length = n := by have := hown.1; simpa using this
  obtain ⟨F, hF⟩ : ∃ F : Nat → Int, (fun j => (xs.getD j 0 - x * us.getD j 0 % p) % p) = F := ⟨_, rfl⟩
  have HF := hid (fun j => (congrFun hF j : (xs.getD j 0 - x * us.getD j 0 % p) % p = F j))
  rw [hF]
  have Hown := hid hown; have Hxl := hid hxl
  obtain ⟨a, cu, rfl, k1, k2, k3⟩ := hu
  rw [hul] at k1 k3 ⊢
  obtain ⟨b, off, rfl, hb, hc⟩ := k3 (by omega)
  have Hc := hid hc
  have hgb : g ≠ b := hne b rfl
  clear hF k3 hc hown hxl hne hul hxs hus hp
  go_enter Try.func59, Try.ntmps59
  go_wp2_with fail
  go_loopw [14] (fun iv wr => ∃ (j : Nat) (l : List Int), iv = .int .i64 j ∧ j ≤ n ∧ Hid (l.length = n) ∧ Hid (wr.ownsRow base 22 1 (.slice (some ⟨g, 0, none⟩) n cap) n (l.map (Value.int .u64))) ∧ Hid (∀ t, t < n → l.getD t 0 = if t < j then F t else xs.getD t 0) ∧ Hid (w.grownBy wr (some g))) (fun iv _ => n - (intOf iv).toNat)
  case atStart => exact ⟨0, xs, rfl, Nat.zero_le _, Hxl, Hown, hid (fun t ht => by rw [if_neg (by omega)]), hid ((Ext.refl w).grownBy _)⟩
  case round =>
    obtain ⟨j, l, rfl, hj, hl, ho, hget, hgr⟩ := hrel
    by_cases hlt : j < n
    · have gu := (World.cell?_of_block (a := ⟨b, off + j, none⟩) (hgr.out.block b hb (fun e => hgb (by injection e with e; exact e.symm)))).trans (Hc.out j hlt)
      have hlj := hget.out j hlt
      rw [if_neg (by omega)] at hlj
      have rx := Hxs.out.getD hp2.1 j
      have ru := Hus.out.getD hp2.1 j
      have hFj := HF.out j
      obtain ⟨y, ey⟩ : ∃ y, us.getD j 0 = y := ⟨_, rfl⟩
      obtain ⟨z, ez⟩ : ∃ z, xs.getD j 0 = z := ⟨_, rfl⟩
      rw [ey] at gu ru hFj; rw [ez] at hlj rx hFj
      obtain ⟨q, eq, q0, q1⟩ := name_mod (p := p) (x * y) hp2.1
      rw [eq] at hFj
      have hFr := mod_range (z - q) hp2.1
      rw [hFj] at hFr
      obtain ⟨t, et⟩ : ∃ t, F j = t := ⟨_, rfl⟩
      rw [et] at hFj hFr
      have Eq := hid eq; have Et := hid et; have HFj := hid hFj
      have gv := hid fun (W : World) (hW : Ext wr W) => (show W.cell? ⟨g, j, none⟩ = some (.int .u64 z) by
        rw [(ownsRow_ext ho.out hW).cellAt j (by omega), List.getElem?_map, List.getElem?_eq_getElem (show j < l.length by rw [hl.out]; exact hlt)]
        simp only [List.getD, List.getElem?_eq_getElem (show j < l.length by rw [hl.out]; exact hlt), Option.getD_some] at hlj
        rw [hlj]; rfl)
      have fv := hid fun (W : World) (hW : Ext wr W) => (ownsRow_ext ho.out hW).frozenAt j
      have hst := hid fun (W : World) (hW : Ext wr W) => (ownsRow_ext ho.out hW).stored j (.int .u64 t)
      clear ey ez eq et hFj hlj
      go_wp2_with (first
        | (go_at_call 46; refine (mul_as p x y q _ HP.out hx.1 hx.2 ru.1 ru.2 Eq.out).mono ?_; rintro _ w1 ⟨rfl, x1⟩; have g1 := gv.out w1 x1)
        | (go_at_call 48; refine (sub_as p z q t _ HP.out rx.1 rx.2 q0 q1 HFj.out).mono ?_; rintro _ w2 ⟨rfl, x2⟩; have x3 := x1.trans x2; have f2 := fv.out w2 x3; have g2 := gv.out w2 x3))
      have hs := hid (hst.out w2 x3)
      go_roundw
      case rel =>
        refine ⟨j + 1, l.set j t, by go_num, by omega, hid (by rw [List.length_set]; exact hl.out), hid (by rw [← map_set_int]; exact hs.out.1), hid (fun i hi => ?_), hid ((hgr.out.trans (x3.grownBy _)).trans hs.out.2)⟩
        rw [set_get l j i t (by rw [hl.out]; exact hlt)]
        by_cases e : j = i
        · subst e
          rw [if_pos rfl, if_pos (by omega), Et.out]
        · rw [if_neg e, hget.out i hi]
          by_cases e2 : i < j
          · rw [if_pos e2, if_pos (by omega)]
          · rw [if_neg e2, if_neg (by omega)]
      case measure => simp [intOf]; omega
    · obtain rfl : n = j := by omega
      have e : l = tab n F := tab_of hl.out fun t ht => by rw [hget.out t ht, if_pos ht]
      go_wp2_with fail
      go_end0
      exact ⟨rfl, by rw [← e]; exact ho.out, hgr.out⟩

set_option maxHeartbeats 400000 in
theorem cmNot0 (y : Int) (w : World) : Calls Try.prog 61 #[.int .u64 y] w fun e w' => e = .returned (.bool (y != 0)) ∧ w = w' := by
  go_enter Try.func61, Try.ntmps61
  go_wp2_with fail
  go_ret
  exact ⟨rfl, rfl⟩
/-- where the first number that isn't 0 stands -/
def leadV (l : List Int) : Int := if leadE l < l.length then (leadE l : Int) else -1
set_option maxRecDepth 100000 in
set_option maxHeartbeats 1000000 in
theorem cmIndex (v : Value) (xs : List Int) (w : World) (hv : Ints .u64 w v xs) (hx : U64s xs) (hl : xs.length ≤ 1000000) :
    Calls Try.prog 60 #[v, .func (.func 61) #[] #[]] w (Ret (.int .i64 (leadV xs)) w) := by
  have C1 := hid fun y W => cmNot0 y W
  obtain ⟨L, hL⟩ : ∃ L, leadV xs = L := ⟨_, rfl⟩
  rw [hL]
  have HL := hid hL
  have Hx := hid hx
  obtain ⟨a, cap, rfl, k1, k2, k3⟩ := hv
  have K3 := hid k3
  obtain ⟨n, en⟩ : ∃ n, xs.length = n := ⟨_, rfl⟩
  have En := hid en
  rw [en] at k1 K3 hl ⊢
  clear k3 hL en hx
  go_enter Try.func60, Try.ntmps60
  go_wp2_with fail
  go_loopw [8] (fun iv wr => ∃ (j : Nat), iv = .int .i64 j ∧ j ≤ n ∧ Hid (∀ t, t < j → xs.getD t 0 = 0) ∧ Ext w wr) (fun iv _ => n - (intOf iv).toNat)
  case atStart => exact ⟨0, rfl, Nat.zero_le _, hid (fun t ht => absurd ht (Nat.not_lt_zero _)), Ext.refl _⟩
  case round =>
    obtain ⟨j, rfl, hj, hz, hw⟩ := hrel
    by_cases hlt : j < n
    · obtain ⟨b, off, rfl, hb, hc⟩ := K3.out (by omega)
      have g1 := (hw.cells _ _ hb).trans (hc j hlt)
      have ry := Hx.out.get (k := j) (by rw [En.out]; exact hlt)
      obtain ⟨y, ey⟩ : ∃ y, xs.getD j 0 = y := ⟨_, rfl⟩
      rw [ey] at g1 ry
      have Ey := hid ey
      clear ey hc
      by_cases c : y = 0
      · have e0 : ((0 : Int) != 0) = false := by decide
        have C2 := hid (C1.out 0)
        rw [e0] at C2
        subst c
        go_wp2_with (go_at_call 61; refine (C2.out _).mono ?_; rintro _ _ ⟨rfl, rfl⟩)
        go_roundw
        case rel =>
          refine ⟨j + 1, by go_num, by omega, hid (fun t ht => ?_), hw⟩
          by_cases e : t = j
          · rw [e, Ey.out]
          · exact hz.out t (by omega)
        case measure => simp [intOf]; omega
      · have e0 : (y != 0) = true := by simp [c]
        have C2 := hid (C1.out y)
        rw [e0] at C2
        have hLj := hid (show L = (j : Int) by
          have hjl : j < xs.length := by rw [En.out]; exact hlt
          have e1 : leadE xs = j := leadE_eq hjl (by rw [Ey.out]; exact c) hz.out
          rw [← HL.out]; unfold leadV
          rw [e1, if_pos hjl])
        go_wp2_with (go_at_call 61; refine (C2.out _).mono ?_; rintro _ _ ⟨rfl, rfl⟩)
        go_ret
        exact ⟨ret_int hLj.out.symm, hw⟩
    · obtain rfl : n = j := by omega
      have hLj := hid (show L = -1 by
        have e1 : leadE xs = xs.length := leadE_all fun t ht => hz.out t (by rw [← En.out]; exact ht)
        rw [← HL.out]; unfold leadV
        rw [e1, if_neg (Nat.lt_irrefl _)])
      go_wp2_with fail
      go_ret
      exact ⟨ret_int hLj.out.symm, hw⟩
end Go.Proofs.Ytnfnommiabalfaa
/- Package perm: sides, orders that are right, One. -/
namespace Go.Proofs.Ytnfnommiabalfaa
open Go.RowKit Go.Maps

theorem pmSide (n : Int) (w : World) : Calls Try.prog 89 #[.int .i64 n] w fun e w' => e = .returned (.bool (sideB n)) ∧ w = w' := by
  by_cases h : 1 ≤ n
  · by_cases h' : n ≤ 64
    all_goals
      go_enter Try.func89, Try.ntmps89
      go_wp2
      go_ret
      exact ⟨ret_bool (by simp [sideB]; omega), rfl⟩
  · go_enter Try.func89, Try.ntmps89
    go_wp2
    go_ret
    exact ⟨ret_bool (by simp [sideB]; omega), rfl⟩

/-- rows without repetition, of numbers that are all below their number: an order -/
theorem Ord.of_nodup {n : Nat} {p : List Int} (hl : p.length = n) (hr : ∀ j, j < n → 0 ≤ p.getD j 0 ∧ p.getD j 0 < n) (hn : p.Nodup) : Ord n p := by
  have hp := nodup_sub (r := upL n) hn (fun x hx => by
    obtain ⟨j, hj, rfl⟩ := List.getElem_of_mem hx
    have := hr j (by omega)
    rw [List.getD, List.getElem?_eq_getElem hj] at this
    exact upL_mem.2 this) (by rw [upL_len]; omega)
  exact Ord.of_perm hp.symm
theorem mem_take_getD {p : List Int} {k j : Nat} (hj : j < k) (hk : k ≤ p.length) : p.getD j 0 ∈ p.take k := by
  have h : j < (p.take k).length := by rw [List.length_take]; omega
  have e : p.getD j 0 = (p.take k)[j] := by simp [List.getD, show j < p.length by omega]
  rw [e]; exact List.getElem_mem h
theorem nodup_take_succ {p : List Int} {k : Nat} (h : k < p.length) (hn : (p.take k).Nodup) (hx : p.getD k 0 ∉ p.take k) : (p.take (k + 1)).Nodup := by
  rw [take_snoc_getD h, List.nodup_append]
  exact ⟨hn, by simp, fun a ha b hb e => by
    have : b = p.getD k 0 := by simpa using hb
    subst e; subst this; exact hx ha⟩

set_option maxRecDepth 100000 in
set_option maxHeartbeats 1000000 in
theorem qmRight (v : Value) (p : List Int) (w : World) (hv : Ints .i64 w v p) : Calls Try.prog 87 #[v] w (Ret (.bool (ordB p)) w) := by
  have CS := hid fun n W => pmSide n W
  obtain ⟨O, hO⟩ : ∃ O, ordB p = O := ⟨_, rfl⟩
  rw [hO]
  have HO := hid hO
  obtain ⟨a, cap, rfl, k1, k2, k3⟩ := hv
  have K3 := hid k3
  obtain ⟨n, en⟩ : ∃ n, p.length = n := ⟨_, rfl⟩
  have En := hid en
  rw [en] at k1 K3 ⊢
  clear k3 hO en
  by_cases hn : 1 ≤ (n : Int) ∧ (n : Int) ≤ 64
  · have s : sideB n = true := decide_eq_true hn
    have hn2 : 1 ≤ n ∧ n ≤ 64 := by omega
    obtain ⟨b, off, rfl, hb, hc⟩ := K3.out (by omega)
    have Hc := hid hc
    clear hc hn
    go_enter Try.func87, Try.ntmps87
    go_wp2_with (go_at_call 89; refine (CS.out _ _).mono ?_; rintro _ _ ⟨rfl, rfl⟩)
    go_loopw [12] (fun iv wr => ∃ (k : Nat) (cs : Array Value), iv = .int .i64 k ∧ k ≤ n ∧ Hid (Blk wr w.heap.size 118 cs) ∧ Hid (∀ y, y < 64 → cs[y]? = some (.bool (decide ((y : Int) ∈ p.take k)))) ∧ Hid (∀ j, j < k → 0 ≤ p.getD j 0 ∧ p.getD j 0 < n) ∧ Hid ((p.take k).Nodup) ∧ Ext w wr) (fun iv _ => n - (intOf iv).toNat)
    case atStart => exact ⟨0, _, rfl, Nat.zero_le _, hid (Blk.new _ _ _), hid (fun y hy => by show (Array.replicate 64 (Value.bool false))[y]? = _; simp [hy]), hid (fun j hj => absurd hj (Nat.not_lt_zero _)), hid (by simp), (Ext.refl _).alloc _⟩
    case round =>
      obtain ⟨k, cs, rfl, hk, hbl, hcs, hr, hnd, hxw⟩ := hrel
      by_cases hlt : k < n
      · have g1 := (hxw.cells _ _ hb).trans (Hc.out k hlt)
        obtain ⟨x, ex⟩ : ∃ x, p.getD k 0 = x := ⟨_, rfl⟩
        rw [ex] at g1
        have Ex := hid ex
        have hbad := hid (fun (h : ¬ (0 ≤ x ∧ x < n) ∨ x ∈ p.take k) => (show O = false by
          rw [← HO.out, Bool.eq_false_iff]
          intro hb
          obtain ⟨_, _, ho⟩ := ordB_iff.1 hb
          rw [En.out] at ho
          have hg := ho.get (k := k) hlt
          rw [ex] at hg
          rcases h with h | h
          · exact h hg
          · obtain ⟨j, hj, e⟩ := List.getElem_of_mem h
            rw [List.length_take] at hj
            have := ho.inj (i := j) (k := k) (by omega) hlt (by
              rw [ex, ← e]; simp [List.getD, show j < p.length by omega])
            omega))
        clear ex
        by_cases c1 : x < 0
        · have hf := hid (hbad.out (.inl (by omega)))
          go_wp2_with fail
          go_ret
          exact ⟨ret_bool hf.out.symm, hxw⟩
        by_cases c2 : (n : Int) ≤ x
        · have hf := hid (hbad.out (.inl (by omega)))
          go_wp2_with fail
          go_ret
          exact ⟨ret_bool hf.out.symm, hxw⟩
        obtain ⟨t, rfl⟩ := Int.eq_ofNat_of_zero_le (show 0 ≤ x by omega)
        have ht : t < n := by omega
        have gX := (hbl.out.cell t).trans (hcs.out t (by omega))
        have gF := hbl.out.frozen t
        have hsz : t < cs.size := (Array.getElem?_eq_some_iff.1 (hcs.out t (by omega))).1
        obtain ⟨B, eB⟩ : ∃ B, decide ((t : Int) ∈ p.take k) = B := ⟨_, rfl⟩
        rw [eB] at gX
        have EB := hid eB
        clear eB
        cases B with
        | true =>
          have hf := hid (hbad.out (.inr (of_decide_eq_true EB.out)))
          go_wp2_with fail
          go_ret
          exact ⟨ret_bool hf.out.symm, hxw⟩
        | false =>
          have hnew := hid (of_decide_eq_false EB.out)
          go_wp2_with fail
          go_roundw
          case rel =>
            have hkl : k < p.length := by have := En.out; omega
            refine ⟨k + 1, cs.setIfInBounds t (.bool true), by go_num, by omega, hid (hbl.out.set_ t (.bool true)), hid (fun y hy => ?_), hid (fun j hj => ?_), hid ?_, hxw.setCell (p := ⟨w.heap.size, t, none⟩) (Nat.le_refl _) _⟩
            · rw [Array.getElem?_setIfInBounds, take_snoc_getD hkl, Ex.out]
              by_cases e : t = y
              · subst e
                rw [if_pos rfl, if_pos hsz]
                congr 2
                symm
                exact decide_eq_true (by simp)
              · rw [if_neg e, hcs.out y hy]
                congr 2
                rw [decide_eq_decide]
                simp only [List.mem_append, List.mem_singleton]
                exact ⟨.inl, fun h => h.resolve_right (by omega)⟩
            · by_cases e : j = k
              · rw [e, Ex.out]; omega
              · exact hr.out j (by omega)
            · exact nodup_take_succ hkl hnd.out (by rw [Ex.out]; exact hnew.out)
          case measure => simp [intOf]; omega
      · obtain rfl : n = k := by omega
        have hf := hid (show O = true by
          rw [← HO.out]
          have hl := En.out
          have hnd2 := hnd.out
          rw [List.take_of_length_le (by omega)] at hnd2
          exact (Ord.of_nodup hl hr.out hnd2).b (by omega) hn2.2)
        go_wp2_with fail
        go_ret
        exact ⟨ret_bool hf.out.symm, hxw⟩
  · have s : sideB n = false := decide_eq_false hn
    have hf : O = false := by
      rw [← HO.out, Bool.eq_false_iff]
      intro hb
      obtain ⟨h1, h2, _⟩ := ordB_iff.1 hb
      rw [En.out] at h1 h2
      exact hn (by omega)
    subst hf
    clear hn K3
    go_enter Try.func87, Try.ntmps87
    go_wp2_with (go_at_call 89; refine (CS.out _ _).mono ?_; rintro _ _ ⟨rfl, rfl⟩)
    go_ret
    exact ⟨rfl, Ext.refl _⟩

/-- a block whose first so many cells are numbers -/
theorem Blk.ints {w : World} {g n : Nat} {t : TypeId} {cs : Array Value} {k : IntKind} {xs : List Int} (h : Blk w g t cs) (hl : xs.length = n) (hn : n ≤ 9223372036854775807) (hc : ∀ j, j < n → cs[j]? = some (.int k (xs.getD j 0))) : Ints k w (.slice (some ⟨g, 0, none⟩) n n) xs := by
  subst hl
  exact Ints.mk (Nat.le_refl _) hn h.lt fun j hj => by rw [Nat.zero_add, h.cell j]; exact hc j hj

end Go.Proofs.Ytnfnommiabalfaa
