/- Rings of an order (in plain Lean; nothing of a program). -/
import Derived.Test.YtalkbmnbggclpaaOrdM
namespace Go.Proofs.Ytalkbmnbggclpaa

/-- a step of an order, so many times -/
def itL (p : List Int) : Nat → Nat → Nat
  | 0, x => x
  | k + 1, x => (p.getD (itL p k x) 0).toNat
theorem itL_succ (p : List Int) (k x : Nat) : itL p (k + 1) x = (p.getD (itL p k x) 0).toNat := rfl
theorem itL_add (p : List Int) (i k x : Nat) : itL p (i + k) x = itL p i (itL p k x) := by
  induction i with
  | zero => rw [Nat.zero_add]; rfl
  | succ i ih => rw [show i + 1 + k = (i + k) + 1 by omega, itL_succ, itL_succ, ih]
variable {n : Nat} {p : List Int}
theorem Ord.it_lt (h : Ord n p) {x : Nat} (hx : x < n) (k : Nat) : itL p k x < n := by
  induction k with
  | zero => exact hx
  | succ k ih => have := h.get ih; rw [itL_succ]; omega
theorem Ord.step_inj (h : Ord n p) {x y : Nat} (hx : x < n) (hy : y < n) (e : (p.getD x 0).toNat = (p.getD y 0).toNat) : x = y := by
  have h1 := h.get hx
  have h2 := h.get hy
  exact h.inj hx hy (by omega)
theorem Ord.it_inj (h : Ord n p) {x y : Nat} (hx : x < n) (hy : y < n) (k : Nat) (e : itL p k x = itL p k y) : x = y := by
  induction k with
  | zero => exact e
  | succ k ih => exact ih (h.step_inj (h.it_lt hx k) (h.it_lt hy k) e)
/-- each number comes back -/
theorem Ord.comes_back (h : Ord n p) {x : Nat} (hx : x < n) : ∃ r, 1 ≤ r ∧ r ≤ n ∧ itL p r x = x := by
  by_cases hn : ((List.range (n + 1)).map fun k => ((itL p k x : Nat) : Int)).Nodup
  · exfalso
    have := nodup_len (r := upL n) hn fun y hy => by
      obtain ⟨k, _, rfl⟩ := List.mem_map.1 hy
      have := h.it_lt hx k
      exact upL_mem.2 (by omega)
    rw [upL_len] at this
    simp at this
    omega
  · rw [List.Nodup, List.pairwise_map, List.pairwise_iff_getElem] at hn
    simp only [List.length_range, List.getElem_range, Classical.not_forall] at hn
    obtain ⟨i, k, hi, hk, hik, e⟩ := hn
    have e' : itL p i x = itL p k x := by
      have := Classical.not_not.1 e
      omega
    refine ⟨k - i, by omega, by omega, ?_⟩
    rw [show k = i + (k - i) by omega, itL_add] at e'
    exact (h.it_inj hx (h.it_lt hx _) i e').symm
/-- how many steps a ring has -/
def perL (p : List Int) (x : Nat) : Nat := ((List.range p.length).findIdx? fun k => itL p (k + 1) x == x).getD 0 + 1
theorem Ord.per (h : Ord n p) {x : Nat} (hx : x < n) : 1 ≤ perL p x ∧ perL p x ≤ n ∧ itL p (perL p x) x = x ∧ ∀ k, 1 ≤ k → k < perL p x → itL p k x ≠ x := by
  obtain ⟨r, h1, h2, h3⟩ := h.comes_back hx
  have hl : p.length = n := h.len
  cases hf : (List.range p.length).findIdx? fun k => itL p (k + 1) x == x with
  | none =>
    rw [List.findIdx?_eq_none_iff] at hf
    have := hf (r - 1) (List.mem_range.2 (by omega))
    rw [show r - 1 + 1 = r by omega] at this
    simp [h3] at this
  | some k =>
    rw [List.findIdx?_eq_some_iff_getElem] at hf
    obtain ⟨hk, h4, h5⟩ := hf
    simp only [List.length_range] at hk
    simp only [List.getElem_range, beq_iff_eq] at h4
    unfold perL
    have e : ((List.range p.length).findIdx? fun k => itL p (k + 1) x == x) = some k := by
      rw [List.findIdx?_eq_some_iff_getElem]
      exact ⟨by simpa using hk, by simpa using h4, h5⟩
    rw [e]
    simp only [Option.getD_some]
    refine ⟨by omega, by omega, h4, fun j hj1 hj2 => ?_⟩
    have := h5 (j - 1) (by omega)
    simp only [List.getElem_range, show j - 1 + 1 = j by omega] at this
    simpa using this
/-- a number's ring, from it on -/
def ringL (p : List Int) (x : Nat) : List Int := tab (perL p x) fun k => (itL p k x : Int)
theorem ringL_len (p : List Int) (x : Nat) : (ringL p x).length = perL p x := tab_len _ _
theorem ringL_get {x k : Nat} (h : k < perL p x) : (ringL p x).getD k 0 = itL p k x := tab_get _ h
theorem ringL_mem {x : Nat} {y : Int} : y ∈ ringL p x ↔ ∃ k, k < perL p x ∧ y = itL p k x := by
  simp only [ringL, tab, List.mem_map, List.mem_range]
  exact ⟨fun ⟨k, h1, h2⟩ => ⟨k, h1, h2.symm⟩, fun ⟨k, h1, h2⟩ => ⟨k, h1, h2.symm⟩⟩
/-- so many rounds, and so many steps -/
theorem Ord.it_mod (h : Ord n p) {x : Nat} (hx : x < n) (k : Nat) : itL p k x = itL p (k % perL p x) x := by
  obtain ⟨h1, _, h3, _⟩ := h.per hx
  have hr : ∀ q, itL p (q * perL p x) x = x := fun q => by
    induction q with
    | zero => rw [Nat.zero_mul]; rfl
    | succ q ih => rw [Nat.succ_mul, itL_add, h3, ih]
  conv => lhs; rw [← Nat.mod_add_div k (perL p x), Nat.mul_comm, itL_add, hr]
theorem Ord.ring_mem (h : Ord n p) {x : Nat} (hx : x < n) (k : Nat) : (itL p k x : Int) ∈ ringL p x :=
  ringL_mem.2 ⟨k % perL p x, Nat.mod_lt _ (h.per hx).1, by rw [← h.it_mod hx]⟩
/-- who is in whose ring -/
theorem Ord.ring_back (h : Ord n p) {x y : Nat} (hx : x < n) (hy : (y : Int) ∈ ringL p x) : ∃ k, itL p k y = x := by
  obtain ⟨k, hk, e⟩ := ringL_mem.1 hy
  obtain ⟨_, _, h3, _⟩ := h.per hx
  have e' : y = itL p k x := by omega
  exact ⟨perL p x - k, by rw [e', ← itL_add, show perL p x - k + k = perL p x by omega, h3]⟩
theorem Ord.ring_nodup (h : Ord n p) {x : Nat} (hx : x < n) : (ringL p x).Nodup := by
  obtain ⟨_, _, _, h4⟩ := h.per hx
  unfold ringL tab List.Nodup
  rw [List.pairwise_map, List.pairwise_iff_getElem]
  simp only [List.length_range, List.getElem_range]
  intro i k _ hk hik e
  have e' : itL p i x = itL p (i + (k - i)) x := by rw [show i + (k - i) = k by omega]; omega
  rw [itL_add] at e'
  exact h4 (k - i) (by omega) (by omega) (h.it_inj hx (h.it_lt hx _) i e').symm
/-- is a number the least of its ring? -/
def leastB (p : List Int) (x : Nat) : Bool := (ringL p x).all fun y => decide ((x : Int) ≤ y)
theorem leastB_true {x : Nat} (h : leastB p x = true) {y : Int} (hy : y ∈ ringL p x) : (x : Int) ≤ y := by
  unfold leastB at h
  rw [List.all_eq_true] at h
  simpa using h y hy
/-- the rings of the numbers below one -/
def ringsTo (p : List Int) (n : Nat) : List (List Int) := ((List.range n).filter fun x => leastB p x).map (ringL p)
/-- the rings of an order -/
def ringsL (p : List Int) : List (List Int) := ringsTo p p.length
theorem ringsTo_succ (p : List Int) (n : Nat) : ringsTo p (n + 1) = if leastB p n then ringsTo p n ++ [ringL p n] else ringsTo p n := by
  unfold ringsTo
  rw [List.range_succ, List.filter_append]
  cases h : leastB p n <;> simp [h]
theorem ringsTo_mem {k : Nat} {l : List Int} : l ∈ ringsTo p k ↔ ∃ x, x < k ∧ leastB p x = true ∧ l = ringL p x := by
  simp only [ringsTo, List.mem_map, List.mem_filter, List.mem_range]
  exact ⟨fun ⟨x, ⟨h1, h2⟩, h3⟩ => ⟨x, h1, h2, h3.symm⟩, fun ⟨x, h1, h2, h3⟩ => ⟨x, ⟨h1, h2⟩, h3.symm⟩⟩
/-- each number's ring has a least one -/
theorem Ord.has_least (h : Ord n p) : ∀ m x : Nat, x ≤ m → x < n → ∃ s, s < n ∧ leastB p s = true ∧ (x : Int) ∈ ringL p s := by
  intro m
  induction m with
  | zero =>
    intro x hx hn
    obtain rfl : x = 0 := by omega
    refine ⟨0, hn, ?_, h.ring_mem hn 0⟩
    unfold leastB
    rw [List.all_eq_true]
    intro y hy
    obtain ⟨k, _, rfl⟩ := ringL_mem.1 hy
    simp
  | succ m ih =>
    intro x hx hn
    cases hl : leastB p x with
    | true => exact ⟨x, hn, hl, h.ring_mem hn 0⟩
    | false =>
      unfold leastB at hl
      rw [List.all_eq_false] at hl
      obtain ⟨y, hy, hlt⟩ := hl
      obtain ⟨k, hk, rfl⟩ := ringL_mem.1 hy
      have hlt : itL p k x < x := by simpa using hlt
      obtain ⟨s, h1, h2, h3⟩ := ih (itL p k x) (by omega) (h.it_lt hn k)
      refine ⟨s, h1, h2, ?_⟩
      obtain ⟨j, hj⟩ := h.ring_back hn hy
      obtain ⟨i, _, hi⟩ := ringL_mem.1 h3
      have hi : itL p k x = itL p i s := by omega
      have e : x = itL p (j + i) s := by rw [itL_add, ← hi, hj]
      rw [e]
      exact h.ring_mem h1 _
theorem Ord.rings_apart (h : Ord n p) {s t : Nat} (hs : s < n) (ht : t < n) (ls : leastB p s = true) (lt : leastB p t = true) {y : Int} (h1 : y ∈ ringL p s) (h2 : y ∈ ringL p t) : s = t := by
  obtain ⟨i, _, e1⟩ := ringL_mem.1 h1
  obtain ⟨k, _, e2⟩ := ringL_mem.1 h2
  have e : itL p i s = itL p k t := by omega
  obtain ⟨a, ha⟩ := h.ring_back hs (y := itL p i s) (by rw [← e1]; exact h1)
  obtain ⟨b, hb⟩ := h.ring_back ht (y := itL p k t) (by rw [← e2]; exact h2)
  have m1 := leastB_true lt (y := s) (by
    have := h.ring_mem ht (a + k)
    rwa [itL_add, ← e, ha] at this)
  have m2 := leastB_true ls (y := t) (by
    have := h.ring_mem hs (b + i)
    rwa [itL_add, e, hb] at this)
  omega
/-- all rings, one behind the other, have each number once -/
theorem Ord.rings_flat (h : Ord n p) : Ord n (ringsL p).flatten := by
  have hl : p.length = n := h.len
  refine Ord.of_perm (nodup_sub (upL_nodup n) (fun x hx => ?_) ?_)
  · obtain ⟨h1, h2⟩ := upL_mem.1 hx
    obtain ⟨s, hs, ls, hm⟩ := h.has_least x.toNat x.toNat (Nat.le_refl _) (by omega)
    rw [Int.toNat_of_nonneg h1] at hm
    exact List.mem_flatten.2 ⟨_, ringsTo_mem.2 ⟨s, by omega, ls, rfl⟩, hm⟩
  · rw [upL_len]
    have hn : (ringsL p).flatten.Nodup := by
      unfold ringsL
      rw [hl]
      have : ∀ k, k ≤ n → (ringsTo p k).flatten.Nodup := fun k => by
        induction k with
        | zero => intro _; simp [ringsTo]
        | succ k ih =>
          intro hk
          rw [ringsTo_succ]
          split
          case isTrue hlk =>
            rw [List.flatten_append, List.nodup_append]
            refine ⟨ih (by omega), by simpa using h.ring_nodup (by omega), fun a ha b hb e => ?_⟩
            subst e
            obtain ⟨l, hl1, hl2⟩ := List.mem_flatten.1 ha
            obtain ⟨x, hx, lx, rfl⟩ := ringsTo_mem.1 hl1
            have hb' : a ∈ ringL p k := by simpa using hb
            have := h.rings_apart (by omega) (by omega) lx hlk hl2 hb'
            omega
          case isFalse => exact ih (by omega)
      exact this n (Nat.le_refl _)
    have := nodup_len (r := upL n) hn fun y hy => by
      obtain ⟨l, hl1, hl2⟩ := List.mem_flatten.1 hy
      obtain ⟨x, hx, _, rfl⟩ := ringsTo_mem.1 hl1
      obtain ⟨k, _, rfl⟩ := ringL_mem.1 hl2
      have := h.it_lt (x := x) (by omega) k
      exact upL_mem.2 (by omega)
    rwa [upL_len] at this
/-- a step along a ring -/
theorem Ord.ring_step (h : Ord n p) {x : Nat} (hx : x < n) (k : Nat) : p.getD (itL p k x) 0 = itL p ((k + 1) % perL p x) x := by
  rw [← h.it_mod hx, itL_succ, Int.toNat_of_nonneg (h.get (h.it_lt hx k)).1]
end Go.Proofs.Ytalkbmnbggclpaa
