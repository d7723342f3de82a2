/- What the texts RuleM, Ref04 show, in one text. -/
import Derived.Test.YtfpmcajndgkgeaaBun27
import Derived.Test.YtfpmcajndgkgeaaBun06
import Derived.Test.YtfpmcajndgkgeaaBun08
/- Rules of rows as lists of numbers: what breaks one, how a row goes on by one, how one is mended by an older one (in plain Lean; nothing of a program). -/
namespace Go.Proofs.Ytfpmcajndgkgeaa
variable {p : Int}

theorem Ser.mul_co_congr {a b b' : Ser p} {k : Nat} (h : ∀ i, i ≤ k → b.co i = b'.co i) : (a * b).co k = (a * b').co k := by
  rw [Ser.mul_co, Ser.mul_co, cv, cv]
  congr 1
  exact sm_congr fun i hi => by rw [h (k - i) (by omega)]
theorem Ob.congr {s s' c : Ser p} {l n : Nat} (h : ∀ i, i < n → s.co i = s'.co i) (o : Ob s c l n) : Ob s' c l n :=
  ⟨o.low, o.one, fun i h1 h2 => by rw [← o.obe i h1 h2]; exact (Ser.mul_co_congr fun j hj => h j (by omega)).symm⟩
theorem drop_get (xs : List Int) (n j : Nat) : (xs.drop n).getD j 0 = xs.getD (n + j) 0 := by simp [List.getD]
theorem take_get (xs : List Int) {n j : Nat} (h : j < n) : (xs.take n).getD j 0 = xs.getD j 0 := by simp [List.getD, h]
theorem pol_take_co (xs : List Int) {n j : Nat} (h : j < n) : (pol p (xs.take n)).co j = (pol p xs).co j := by rw [pol_co, pol_co, take_get xs h]
/-- by how much the last number fails a rule -/
theorem breach_at {s c : List Int} (hs : Rng p s) (hc : Rng p c) (h0 : 1 ≤ c.length) (h : c.length ≤ s.length) :
    dotZ (s.drop (s.length - c.length)) c.reverse % p = (pol p c * pol p s).co (s.length - 1) := by
  have l : (s.drop (s.length - c.length)).length = c.length := by simp; omega
  rw [dotZ_sm _ _ (by rw [l, List.length_reverse]), l, sm_rev, Ser.mul_co, cv, show s.length - 1 + 1 = s.length by omega,
    sm_piece 0 c.length (n := s.length) (by omega) (fun i hi => by omega) (fun i h1 h2 => by rw [hc.co, getD_over (xs := c) (by omega), Int.zero_mul])]
  congr 1
  refine sm_congr fun i hi => ?_
  rw [hc.co, hs.co, Nat.zero_add, drop_get, rev_get c (by omega), show s.length - c.length + (c.length - 1 - i) = s.length - 1 - i by omega, show c.length - 1 - (c.length - 1 - i) = i by omega, Int.mul_comm]

/-! ### A row goes on -/
def onL (p : Int) (c s : List Int) : Nat → List Int
  | 0 => s
  | k + 1 => onL p c s k ++ [(0 - (pol p c * pol p (onL p c s k)).co (onL p c s k).length) % p]
theorem onL_len (c s : List Int) : ∀ k, (onL p c s k).length = s.length + k
  | 0 => rfl
  | k + 1 => by rw [onL, List.length_append, onL_len c s k]; simp; omega
theorem Rng.append {xs ys : List Int} (h : Rng p xs) (h' : Rng p ys) : Rng p (xs ++ ys) := fun x hx => by
  rcases List.mem_append.1 hx with h1 | h1
  · exact h x h1
  · exact h' x h1
theorem onL_rng (hp : 2 ≤ p) {c s : List Int} (hs : Rng p s) : ∀ k, Rng p (onL p c s k)
  | 0 => hs
  | k + 1 => (onL_rng hp hs k).append (Rng.one (mod_range _ hp).1 (mod_range _ hp).2)
theorem onL_get (c s : List Int) {j : Nat} : ∀ {k : Nat}, j < s.length → (onL p c s k).getD j 0 = s.getD j 0
  | 0, _ => rfl
  | k + 1, h => by
    have hl := onL_len (p := p) c s k
    rw [onL]
    have : ∀ ys : List Int, (onL p c s k ++ ys).getD j 0 = (onL p c s k).getD j 0 := fun ys => by simp [List.getD, List.getElem?_append, show j < (onL p c s k).length by omega]
    rw [this, onL_get c s h]
theorem onL_onL (c s : List Int) (m : Nat) : ∀ k, onL p c (onL p c s m) k = onL p c s (m + k)
  | 0 => rfl
  | k + 1 => by
    show onL p c (onL p c s m) (k + 1) = onL p c s (m + k + 1)
    rw [onL, onL, onL_onL c s m k]
theorem snoc_get (xs : List Int) (x : Int) (j : Nat) : (xs ++ [x]).getD j 0 = if j = xs.length then x else xs.getD j 0 := by
  rcases Nat.lt_trichotomy j xs.length with h | h | h
  · rw [if_neg (by omega)]; simp [List.getD, List.getElem?_append, h]
  · rw [if_pos h]; simp [List.getD, h]
  · rw [if_neg (by omega), getD_over (by simp; omega), getD_over (by omega)]
theorem pol_snoc (xs : List Int) (x : Int) : pol p (xs ++ [x]) = pol p xs + Ser.up xs.length (Ser.C p x) := Ser.ext_ fun k => by
  rw [Ser.add_co, pol_co, pol_co, snoc_get, Ser.up_co, Ser.C_co, ma_l]
  rcases Nat.lt_trichotomy k xs.length with h | h | h
  · rw [if_neg (by omega), if_pos h, Int.add_zero]
  · subst h
    rw [if_pos rfl, if_neg (by omega), if_pos (by omega), ma_r, getD_over (Nat.le_refl _), Int.zero_add]
  · rw [if_neg (by omega), if_neg (by omega), if_neg (by omega), Int.add_zero]
/-- the number behind a row, by the rule -/
theorem snoc_co {c l : List Int} (x : Int) (h1 : (pol p c).co 0 = 1) : (pol p c * pol p (l ++ [x])).co l.length = (x + (pol p c * pol p l).co l.length) % p := by
  rw [pol_snoc, Ser.mul_add, Ser.add_co, Ser.mul_comm _ (Ser.up _ _), Ser.up_mul, Ser.up_co, if_neg (by omega), Ser.C_mul_co, Nat.sub_self, h1, Int.mul_one, ma_r, Int.add_comm]
theorem onL_obe {c s : List Int} (h1 : (pol p c).co 0 = 1) : ∀ (k i : Nat), s.length ≤ i → i < s.length + k → (pol p c * pol p (onL p c s k)).co i = 0
  | 0, i, h2, h3 => by omega
  | k + 1, i, h2, h3 => by
    have hl := onL_len (p := p) c s k
    rw [onL]
    rcases Nat.lt_or_ge i (s.length + k) with h4 | h4
    · rw [← onL_obe h1 k i h2 h4]
      exact Ser.mul_co_congr fun j hj => by rw [pol_co, pol_co, snoc_get, if_neg (by omega)]
    · obtain rfl : i = (onL p c s k).length := by omega
      rw [snoc_co _ h1, ma_l, Int.sub_add_cancel, Int.zero_emod]
theorem snoc_last {l : List Int} (h : 0 < l.length) : l = l.take (l.length - 1) ++ [l.getD (l.length - 1) 0] := by
  have := take_snoc l (l.length - 1) (by omega)
  rw [show l.length - 1 + 1 = l.length by omega, List.take_length] at this
  exact this
/-- there is one way to go on -/
theorem onL_unique (hp : 2 ≤ p) {c s : List Int} (h1 : (pol p c).co 0 = 1) : ∀ (k : Nat) (l : List Int), Rng p l → l.length = s.length + k → (∀ j, j < s.length → l.getD j 0 = s.getD j 0) → (∀ i, s.length ≤ i → i < s.length + k → (pol p c * pol p l).co i = 0) → l = onL p c s k
  | 0, l, _, hl, hg, _ => list_ext hl fun j hj => hg j (by omega)
  | k + 1, l, hr, hl, hg, ho => by
    have e := snoc_last (l := l) (by omega)
    obtain ⟨m, hm⟩ : ∃ m, l.take (l.length - 1) = m := ⟨_, rfl⟩
    have hml : m.length = s.length + k := by rw [← hm]; simp; omega
    have hx := hr.get (k := l.length - 1) (by omega)
    obtain ⟨x, ex⟩ : ∃ x, l.getD (l.length - 1) 0 = x := ⟨_, rfl⟩
    rw [ex] at e hx
    rw [hm] at e
    have hmg : ∀ j, j < m.length → m.getD j 0 = l.getD j 0 := fun j hj => by rw [e, snoc_get, if_neg (by omega)]
    have ih := onL_unique hp h1 k m (fun y hy => hr y (by rw [e]; simp [hy])) hml (fun j hj => by rw [hmg j (by omega), hg j hj]) (fun i h2 h3 => by
      rw [← ho i h2 (by omega)]
      exact Ser.mul_co_congr fun j hj => by rw [pol_co, pol_co, hmg j (by omega)])
    have h0 := ho m.length (by omega) (by omega)
    rw [e, snoc_co x h1] at h0
    rw [e, onL, ← ih]
    congr 2
    have hA := Ser.co_range (pol p c * pol p m) hp m.length
    obtain ⟨A, hA'⟩ : ∃ A, (pol p c * pol p m).co m.length = A := ⟨_, rfl⟩
    rw [hA'] at h0 hA ⊢
    have := Int.emod_add_mul_ediv (x + A) p
    rw [h0, Int.zero_add] at this
    have e2 : 0 - A = x + p * (- ((x + A) / p)) := by rw [Int.mul_neg]; omega
    rw [e2, Int.add_mul_emod_self_left]
    exact (mod_small hx.1 hx.2).symm

/-! ### A rule less so many times an older one -/
def mendL (p : Int) (rule older : List Int) (q : Int) (m : Nat) : List Int :=
  (List.range (max rule.length (m + older.length))).map fun t => (rule.getD t 0 - if t < m then 0 else q * older.getD (t - m) 0) % p
theorem mendL_len (rule older : List Int) (q : Int) (m : Nat) : (mendL p rule older q m).length = max rule.length (m + older.length) := by simp [mendL]
theorem mendL_get (rule older : List Int) (q : Int) (m t : Nat) : (mendL p rule older q m).getD t 0 = (rule.getD t 0 - if t < m then 0 else q * older.getD (t - m) 0) % p := by
  rcases Nat.lt_or_ge t (max rule.length (m + older.length)) with h | h
  · simp [mendL, List.getD, h]
  · rw [getD_over (by rw [mendL_len]; exact h), getD_over (xs := rule) (by omega), if_neg (by omega), getD_over (xs := older) (by omega)]; simp
theorem mendL_rng (hp : 2 ≤ p) (rule older : List Int) (q : Int) (m : Nat) : Rng p (mendL p rule older q m) := Rng.of_get fun k _ => by
  rw [mendL_get]; exact mod_range _ hp
theorem mendL_pol (rule older : List Int) (q : Int) (m : Nat) : pol p (mendL p rule older q m) = (pol p rule).put (pol p older) q m := Ser.ext_ fun t => by
  unfold Ser.put
  rw [Ser.sub_co, Ser.C_mul_co, Ser.up_co, pol_co, pol_co, mendL_get, Int.emod_emod_of_dvd _ (Int.dvd_refl _), ms_l]
  split
  · rw [Int.mul_zero, Int.zero_emod]
  · rw [pol_co, mm_r, ms_r]

/-- what the search keeps -/
structure RInv (p : Int) (s rule older : List Int) (d : Int) (i : Nat) : Prop where
  r1 : Rng p rule
  r2 : rule.getD 0 0 = 1
  r3 : 1 ≤ rule.length
  o1 : Rng p older
  o2 : 1 ≤ older.length
  o3 : rule.length + older.length ≤ i + 2
  d0 : 0 < d ∧ d < p
  ma : ∃ nb, Ma (pol p s) (pol p rule) (pol p older) (rule.length - 1) i nb d ∧ (rule.length = 1 → older = [1] ∧ d = 1) ∧ (rule.length ≠ 1 → rule.length + older.length = nb + 3 ∧ nb < i)
theorem RInv.start (hp : 2 ≤ p) (s : List Int) : RInv p s [1] [1] 1 0 :=
  ⟨Rng.one (by omega) (by omega), rfl, by simp, Rng.one (by omega) (by omega), by simp, by simp, by omega, 0, by rw [pol_single, Ser.C_one]; exact Ma.start _ _ hp 0 1, fun _ => ⟨rfl, rfl⟩, fun h => absurd rfl h⟩
theorem RInv.le {s rule older : List Int} {d : Int} {i : Nat} (h : RInv p s rule older d i) (hp : 2 ≤ p) : rule.length ≤ i + 1 := by
  obtain ⟨nb, h1, _⟩ := h.ma
  have := h1.len hp
  omega
theorem RInv.stay {s rule older : List Int} {d : Int} {i : Nat} (h : RInv p s rule older d i) (h0 : (pol p rule * pol p s).co i = 0) : RInv p s rule older d (i + 1) := by
  obtain ⟨nb, h1, h2, h3⟩ := h.ma
  exact ⟨h.r1, h.r2, h.r3, h.o1, h.o2, by have := h.o3; omega, h.d0, nb, h1.stay fun _ => h0, h2, fun h => by have := h3 h; omega⟩
theorem RInv.step {s rule older : List Int} {d here q : Int} {i : Nat} (hp : 2 ≤ p) (h : RInv p s rule older d i) (hh : (pol p rule * pol p s).co i = here) (h0 : here ≠ 0) (hq : q * d % p = here) :
    (rule.length < (mendL p rule older q (i + 3 - rule.length - older.length)).length → RInv p s (mendL p rule older q (i + 3 - rule.length - older.length)) rule here (i + 1)) ∧
    ((mendL p rule older q (i + 3 - rule.length - older.length)).length ≤ rule.length → RInv p s (mendL p rule older q (i + 3 - rule.length - older.length)) older d (i + 1)) := by
  have hr := Ser.co_range (pol p rule * pol p s) hp i
  rw [hh] at hr
  have hle := h.le hp
  obtain ⟨nb, h1, h2, h3⟩ := h.ma
  have r3 := h.r3; have o2 := h.o2; have o3 := h.o3
  obtain ⟨m, hm⟩ : ∃ m, i + 3 - rule.length - older.length = m := ⟨_, rfl⟩
  rw [hm]
  have hl := mendL_len (p := p) rule older q m
  have hrg := mendL_rng (p := p) hp rule older q m
  have hn0 : (mendL p rule older q m).getD 0 0 = 1 := by
    rw [mendL_get, if_pos (by omega), h.r2, Int.sub_zero]; exact mod_small (by omega) (by omega)
  have hpol := mendL_pol (p := p) rule older q m
  obtain ⟨next, hnx⟩ : ∃ next, mendL p rule older q m = next := ⟨_, rfl⟩
  rw [hnx] at hl hrg hn0 hpol ⊢
  have c1 : (pol p next).co 0 = 1 := by rw [hrg.co]; exact hn0
  by_cases e : rule.length = 1
  · obtain ⟨rfl, rfl⟩ := h2 e
    have hml : m = i + 1 := by rw [← hm, e]; simp
    have hl2 : next.length = i + 2 := by rw [hl, hml, e]; simp
    refine ⟨fun _ => ⟨hrg, hn0, by omega, h.r1, r3, by omega, by omega, i, ?_, fun h => by omega, fun _ => by omega⟩, fun h => by omega⟩
    have hob : Ob (pol p s) (pol p next) (i + 1) (i + 1) := first_ob ((pol_low next).mono (by omega)) c1
    rw [show rule.length - 1 = 0 by omega] at h1
    have := h1.grow (c' := pol p next) (by rw [hh]; exact h0) (by omega) hob
    rw [hh] at this
    rw [show next.length - 1 = i + 1 - 0 by omega]
    exact this
  · obtain ⟨h4, h5⟩ := h3 e
    obtain ⟨l1, lb, hb, hlb, hd⟩ : 0 < rule.length - 1 ∧ ∃ lb, Ob (pol p s) (pol p older) lb nb ∧ rule.length - 1 + lb = nb + 1 ∧ (pol p older * pol p s).co nb = d := by
      rcases h1.bef with hb | ⟨_, lb, hb⟩
      · omega
      · exact ⟨by omega, lb, hb⟩
    have hm2 : m = i - nb := by omega
    have hob := put_ob (q := q) h1.ob hb hlb h5 (by omega) (by rw [hd, hh]; exact hq)
    rw [← hm2, ← hpol] at hob
    have hl2 : next.length - 1 = max (rule.length - 1) (i + 1 - (rule.length - 1)) := by rw [hl]; omega
    refine ⟨fun hg => ⟨hrg, hn0, by omega, h.r1, r3, by omega, by omega, i, ?_, fun h => by omega, fun _ => by omega⟩, fun hg => ⟨hrg, hn0, by omega, h.o1, o2, by omega, h.d0, nb, ?_, fun h => by omega, fun _ => by omega⟩⟩
    · have e2 : next.length - 1 = i + 1 - (rule.length - 1) := by omega
      have e3 : max (rule.length - 1) (i + 1 - (rule.length - 1)) = i + 1 - (rule.length - 1) := by omega
      rw [e3] at hob
      have := h1.grow (c' := pol p next) (by rw [hh]; exact h0) (by omega) hob
      rw [hh] at this
      rw [e2]; exact this
    · have e2 : next.length - 1 = rule.length - 1 := by omega
      have e3 : max (rule.length - 1) (i + 1 - (rule.length - 1)) = rule.length - 1 := by omega
      rw [e3] at hob
      rw [e2]; exact h1.turn hob
end Go.Proofs.Ytfpmcajndgkgeaa
/- What the document's own answers of layer 4 are: Right, Sum, Obeys, Turned. -/
namespace Go.Proofs.Ytfpmcajndgkgeaa
open Go.RowKit

/-- is it a rule? -/
def ruleB (p : Int) (c : List Int) : Bool := decide (0 < c.length) && (decide (c.length < 258) && (hasB p c && decide (c.getD 0 0 = 1)))
theorem ruleB_iff {p : Int} {c : List Int} (hc : U64s c) : ruleB p c = true ↔ rightB p = true ∧ Rng p c ∧ 0 < c.length ∧ c.length < 258 ∧ c.getD 0 0 = 1 := by
  unfold ruleB
  simp only [Bool.and_eq_true, decide_eq_true_eq]
  constructor
  · rintro ⟨h1, h2, h3, h4⟩
    obtain ⟨h5, h6⟩ := hasB_true h3
    exact ⟨h5, fun x hx => ⟨(hc x hx).1, h6 x hx⟩, h1, h2, h4⟩
  · rintro ⟨h1, h2, h3, h4, h5⟩
    exact ⟨h3, h4, h2.has h1, h5⟩

/-- the sum so far -/
def sumTo (s c : List Int) (at_ k : Nat) : Int := sm (min k (at_ + 1)) fun i => c.getD i 0 * s.getD (at_ - i) 0
theorem sumTo_succ (s c : List Int) {at_ k : Nat} (h : k ≤ at_) : sumTo s c at_ (k + 1) = sumTo s c at_ k + c.getD k 0 * s.getD (at_ - k) 0 := by
  unfold sumTo
  rw [show min (k + 1) (at_ + 1) = k + 1 by omega, show min k (at_ + 1) = k by omega]
  rfl
theorem sumTo_over (s c : List Int) {at_ k : Nat} (h : at_ < k) : sumTo s c at_ (k + 1) = sumTo s c at_ k := by
  unfold sumTo
  rw [show min (k + 1) (at_ + 1) = min k (at_ + 1) by omega]
theorem sumTo_all {p : Int} (s c : List Int) (at_ : Nat) : sumTo s c at_ c.length % p = (pol p c * pol p s).co at_ := by
  rw [Ser.mul_co, cv_mod (f' := fun i => c.getD i 0) (g' := fun i => s.getD i 0) (fun i => by rw [pol_co, Int.emod_emod_of_dvd _ (Int.dvd_refl _)]) (fun i => by rw [pol_co, Int.emod_emod_of_dvd _ (Int.dvd_refl _)])]
  unfold sumTo cv
  rw [sm_piece 0 (min c.length (at_ + 1)) (n := at_ + 1) (by omega) (fun i h => by omega) (fun i h1 h2 => by show c.getD i 0 * _ = 0; rw [getD_over (by omega), Int.zero_mul])]
  congr 1
  exact sm_congr fun i hi => by rw [Nat.zero_add]

/-- does the row obey the rule? -/
def obeysB (p : Int) (s c : List Int) : Bool := ruleB p c && (hasB p s && (List.range s.length).all fun i => decide (i + 1 < c.length) || decide ((pol p c * pol p s).co i = 0))
theorem obeysB_iff {p : Int} {s c : List Int} (hs : U64s s) (hc : U64s c) : obeysB p s c = true ↔ ruleB p c = true ∧ Rng p s ∧ Ob (pol p s) (pol p c) (c.length - 1) s.length := by
  unfold obeysB
  simp only [Bool.and_eq_true, List.all_eq_true, List.mem_range, Bool.or_eq_true, decide_eq_true_eq]
  constructor
  · rintro ⟨h1, h2, h3⟩
    obtain ⟨r1, r2, r3, r4, r5⟩ := (ruleB_iff hc).1 h1
    obtain ⟨_, h6⟩ := hasB_true h2
    refine ⟨h1, fun x hx => ⟨(hs x hx).1, h6 x hx⟩, (pol_low c).mono (by omega), by rw [r2.co]; exact r5, fun i h4 h5 => ?_⟩
    rcases h3 i h5 with h | h
    · omega
    · exact h
  · rintro ⟨h1, h2, h3⟩
    obtain ⟨r1, r2, r3, r4, r5⟩ := (ruleB_iff hc).1 h1
    refine ⟨h1, h2.has r1, fun i hi => ?_⟩
    rcases Nat.lt_or_ge (i + 1) c.length with h | h
    · exact .inl h
    · exact .inr (h3.obe i (by omega) hi)

end Go.Proofs.Ytfpmcajndgkgeaa
