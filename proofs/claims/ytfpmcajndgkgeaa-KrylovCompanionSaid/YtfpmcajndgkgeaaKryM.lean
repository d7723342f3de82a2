/- A matrix done to a vector again and again, and polynomials of it: sums, products, who makes 0 of what; the degree that is always enough (in plain Lean; nothing of a program). -/
import Derived.Test.YtfpmcajndgkgeaaBun14
import Derived.Test.YtfpmcajndgkgeaaBun27
namespace Go.Proofs.Ytfpmcajndgkgeaa
variable {p : Int} {n : Nat} {A : Nat → RowF}

/-- what a matrix makes of a vector -/
def mapF (n : Nat) (A : Nat → RowF) (v : RowF) : RowF := fun i => sm n fun k => A i k * v k
/-- .. so many times -/
def itF (n : Nat) (A : Nat → RowF) : Nat → RowF → RowF
  | 0, v => v
  | k + 1, v => mapF n A (itF n A k v)
/-- a polynomial of the matrix, of d numbers -/
def doF (n : Nat) (A : Nat → RowF) (d : Nat) (f : Nat → Int) (v : RowF) : RowF := fun i => sm d fun k => f k * itF n A k v i
/-- modulo p, on n places, the same -/
def Eqv (p : Int) (n : Nat) (u v : RowF) : Prop := ∀ i, i < n → u i % p = v i % p
theorem Eqv.refl (u : RowF) : Eqv p n u u := fun _ _ => rfl
theorem Eqv.symm {u v : RowF} (h : Eqv p n u v) : Eqv p n v u := fun i hi => (h i hi).symm
theorem Eqv.trans {u v w : RowF} (h : Eqv p n u v) (k : Eqv p n v w) : Eqv p n u w := fun i hi => (h i hi).trans (k i hi)
theorem itF_add (a b : Nat) (v : RowF) : itF n A (a + b) v = itF n A a (itF n A b v) := by
  induction a with
  | zero => rw [Nat.zero_add]; rfl
  | succ a ih => rw [Nat.add_right_comm]; show mapF n A _ = mapF n A _; rw [ih]
theorem itF_succ (k : Nat) (v : RowF) : itF n A (k + 1) v = itF n A k (mapF n A v) := itF_add k 1 v
theorem map_sum (m : Nat) (c : Nat → Int) (w : Nat → RowF) : mapF n A (fun i => sm m fun j => c j * w j i) = fun i => sm m fun j => c j * mapF n A (w j) i := by
  funext i
  unfold mapF
  rw [sm_congr (g := fun k => sm m fun j => c j * (A i k * w j k)) fun k _ => by rw [← sm_mul]; exact sm_congr fun j _ => by grind, sm_comm]
  exact sm_congr fun j _ => sm_mul _ _ _
theorem it_sum (k m : Nat) (c : Nat → Int) (w : Nat → RowF) : itF n A k (fun i => sm m fun j => c j * w j i) = fun i => sm m fun j => c j * itF n A k (w j) i := by
  induction k with
  | zero => rfl
  | succ k ih => show mapF n A _ = _; rw [ih, map_sum]; rfl
theorem do_sum (d : Nat) (f : Nat → Int) (m : Nat) (c : Nat → Int) (w : Nat → RowF) : doF n A d f (fun i => sm m fun j => c j * w j i) = fun i => sm m fun j => c j * doF n A d f (w j) i := by
  funext i
  unfold doF
  rw [sm_congr (g := fun k => sm m fun j => c j * (f k * itF n A k (w j) i)) fun k _ => by rw [it_sum, ← sm_mul]; exact sm_congr fun j _ => by grind, sm_comm]
  exact sm_congr fun j _ => sm_mul _ _ _
theorem do_it (d : Nat) (f : Nat → Int) (k : Nat) (v : RowF) : doF n A d f (itF n A k v) = itF n A k (doF n A d f v) := by
  unfold doF
  rw [it_sum]
  funext i
  exact sm_congr fun j _ => by rw [← itF_add, Nat.add_comm, itF_add]
theorem map_mod {u v : RowF} (h : Eqv p n u v) (i : Nat) : mapF n A u i % p = mapF n A v i % p := sm_mod fun k hk => by rw [← mm_r, h k hk, mm_r]
theorem it_mod {u v : RowF} (h : Eqv p n u v) : ∀ k, Eqv p n (itF n A k u) (itF n A k v)
  | 0 => h
  | k + 1 => fun i _ => map_mod (it_mod h k) i
theorem do_mod {u v : RowF} (h : Eqv p n u v) {d : Nat} {f g : Nat → Int} (hf : ∀ k, k < d → f k % p = g k % p) : Eqv p n (doF n A d f u) (doF n A d g v) := fun i hi =>
  sm_mod fun k hk => by rw [Int.mul_emod, hf k hk, it_mod h k i hi, ← Int.mul_emod]
theorem it_zero {u : RowF} (h : ∀ i, i < n → u i % p = 0) (k : Nat) : ∀ i, i < n → itF n A k u i % p = 0 := by
  induction k with
  | zero => exact h
  | succ k ih => exact fun i _ => sm_mz fun j hj => mz_mul (ih j hj) _
theorem do_zero {u : RowF} (h : ∀ i, i < n → u i % p = 0) (d : Nat) (f : Nat → Int) : ∀ i, i < n → doF n A d f u i % p = 0 := fun i hi =>
  sm_mz fun k _ => mz_mul (it_zero h k i hi) _
theorem sm_cut {f : Nat → Int} {d e : Nat} (hd : d ≤ e) (h : ∀ k, d ≤ k → f k = 0) : sm e f = sm d f := by
  rw [sm_piece (n := e) 0 d (by omega) (fun i hi => absurd hi (Nat.not_lt_zero _)) fun i h1 _ => h i (by omega)]
  exact sm_congr fun i _ => by rw [Nat.zero_add]
theorem do_cut {f : Ser p} {d e : Nat} (hf : f.low d) (hd : d ≤ e) (v : RowF) : doF n A e f.co v = doF n A d f.co v := by
  funext i
  exact sm_cut hd fun k hk => by rw [hf k hk, Int.zero_mul]
theorem do_same {f : Ser p} {d e : Nat} (hf : f.low d) (hg : f.low e) (v : RowF) : doF n A e f.co v = doF n A d f.co v := by
  rcases Nat.le_total d e with h | h
  · exact do_cut hf h v
  · exact (do_cut hg h v).symm
/-- a product's numbers, each with its own -/
theorem sm_conv {f g F : Nat → Int} {a b : Nat} (hf : ∀ i, a ≤ i → f i = 0) (hg : ∀ j, b ≤ j → g j = 0) : (sm (a + b) fun k => cv f g k * F k) = sm a fun i => sm b fun j => f i * g j * F (i + j) := by
  cases h : a + b with
  | zero =>
    obtain ⟨rfl, rfl⟩ : a = 0 ∧ b = 0 := by omega
    rfl
  | succ N =>
    have e1 : (sm (N + 1) fun k => cv f g k * F k) = sm (N + 1) fun k => sm (k + 1) fun i => f i * g (k - i) * F k := sm_congr fun k _ => by unfold cv; rw [sm_mul_r]
    rw [e1, sm_tri (fun k i => f i * g (k - i) * F k) N]
    have e2 : (sm (N + 1) fun j => sm (N + 1 - j) fun k => f j * g (j + k - j) * F (j + k)) = sm (N + 1) fun i => sm b fun j => f i * g j * F (i + j) := sm_congr fun i hi => by
      rcases Nat.lt_or_ge i a with c | c
      · rw [sm_cut (d := b) (by omega) fun k hk => by rw [hg _ (by omega)]; simp]
        exact sm_congr fun j _ => by rw [show i + j - i = j by omega]
      · rw [sm_zero fun k _ => by rw [hf i c]; simp, sm_zero fun k _ => by rw [hf i c]; simp]
    rw [e2]
    exact sm_cut (by omega) fun i hi => sm_zero fun j _ => by rw [hf i hi]; simp
theorem do_mul {f g : Ser p} {a b : Nat} (hf : f.low a) (hg : g.low b) (v : RowF) : Eqv p n (doF n A (a + b) (f * g).co v) (doF n A a f.co (doF n A b g.co v)) := fun i hi => by
  have e1 : doF n A (a + b) (f * g).co v i % p = (sm (a + b) fun k => cv f.co g.co k * itF n A k v i) % p := sm_mod fun k _ => by rw [Ser.mul_co, mm_l]
  rw [e1, sm_conv hf hg]
  refine congrArg (· % p) (sm_congr fun k _ => ?_)
  show _ = f.co k * itF n A k (fun i => sm b fun j => g.co j * itF n A j v i) i
  rw [it_sum, ← sm_mul]
  exact sm_congr fun j _ => by rw [itF_add, Int.mul_assoc]

theorem sm_join (a : Nat) (f : Nat → Int) : ∀ b, sm (a + b) f = sm a f + sm b fun j => f (a + j)
  | 0 => by show sm a f = sm a f + 0; rw [Int.add_zero]
  | b + 1 => by show sm (a + b) f + f (a + b) = sm a f + (sm b (fun j => f (a + j)) + f (a + b)); rw [sm_join a f b]; omega

/-! ### who makes 0 -/
/-- a polynomial of the matrix makes 0 of it -/
def Kil (p : Int) (n : Nat) (A : Nat → RowF) (f : Ser p) (v : RowF) : Prop := ∃ d, f.low d ∧ ∀ i, i < n → doF n A d f.co v i % p = 0
theorem Kil.at_ {f : Ser p} {v : RowF} (h : Kil p n A f v) {d : Nat} (hd : f.low d) : ∀ i, i < n → doF n A d f.co v i % p = 0 := by
  obtain ⟨e, he, h⟩ := h
  rw [do_same he hd]; exact h
theorem Kil.poly {f : Ser p} {v : RowF} (h : Kil p n A f v) : f.poly := ⟨h.choose, h.choose_spec.1⟩
theorem Kil.mul {f q : Ser p} {v : RowF} (h : Kil p n A f v) (hq : q.poly) : Kil p n A (q * f) v := by
  obtain ⟨a, ha⟩ := hq
  obtain ⟨b, hb, h⟩ := h
  refine ⟨a + b, (ha.mul hb).mono (by omega), fun i hi => ?_⟩
  rw [do_mul ha hb v i hi]
  exact do_zero h a _ i hi
theorem Kil.mul' {f q : Ser p} {v : RowF} (h : Kil p n A f v) (hq : q.poly) : Kil p n A (f * q) v := by rw [Ser.mul_comm]; exact h.mul hq
theorem Kil.zero (v : RowF) : Kil p n A 0 v := ⟨0, Ser.low_zero 0, fun _ _ => rfl⟩
theorem Kil.add {f g : Ser p} {v : RowF} (h : Kil p n A f v) (k : Kil p n A g v) : Kil p n A (f + g) v := by
  obtain ⟨a, ha⟩ := h.poly
  obtain ⟨b, hb⟩ := k.poly
  have h1 := h.at_ (ha.mono (show a ≤ a + b by omega))
  have h2 := k.at_ (hb.mono (show b ≤ a + b by omega))
  refine ⟨a + b, (ha.mono (by omega)).add (hb.mono (by omega)), fun i hi => ?_⟩
  have e : doF n A (a + b) (f + g).co v i % p = (doF n A (a + b) f.co v i + doF n A (a + b) g.co v i) % p := by
    unfold doF
    rw [← sm_add]
    exact sm_mod fun k _ => by rw [Ser.add_co, mm_l, Int.add_mul]
  rw [e]
  exact mz_add (h1 i hi) (h2 i hi)
theorem Kil.sub {f g : Ser p} {v : RowF} (h : Kil p n A f v) (k : Kil p n A g v) : Kil p n A (f - g) v := by
  obtain ⟨a, ha⟩ := h.poly
  obtain ⟨b, hb⟩ := k.poly
  have h1 := h.at_ (ha.mono (show a ≤ a + b by omega))
  have h2 := k.at_ (hb.mono (show b ≤ a + b by omega))
  refine ⟨a + b, (ha.mono (by omega)).sub (hb.mono (by omega)), fun i hi => ?_⟩
  have e : doF n A (a + b) (f - g).co v i % p = (doF n A (a + b) f.co v i + -doF n A (a + b) g.co v i) % p := by
    unfold doF
    rw [← sm_neg, ← sm_add]
    exact sm_mod fun k _ => by rw [Ser.sub_co, mm_l, Int.sub_mul]; exact congrArg (· % p) (by omega)
  rw [e]
  exact mz_add (h1 i hi) (mz_neg (h2 i hi))
theorem Kil.it {f : Ser p} {v : RowF} (h : Kil p n A f v) (k : Nat) : Kil p n A f (itF n A k v) := by
  obtain ⟨d, hd, h⟩ := h
  refine ⟨d, hd, fun i hi => ?_⟩
  rw [do_it]
  exact it_zero h k i hi
theorem Kil.congr {f : Ser p} {u v : RowF} (h : Kil p n A f u) (e : Eqv p n v u) : Kil p n A f v := by
  obtain ⟨d, hd, h⟩ := h
  exact ⟨d, hd, fun i hi => by rw [do_mod e (fun _ _ => rfl) i hi]; exact h i hi⟩
theorem Kil.sum {f : Ser p} (hf : f.poly) {m : Nat} (c : Nat → Int) {w : Nat → RowF} (h : ∀ j, j < m → Kil p n A f (w j)) : Kil p n A f fun i => sm m fun j => c j * w j i := by
  obtain ⟨d, hd⟩ := hf
  refine ⟨d, hd, fun i hi => ?_⟩
  rw [do_sum]
  exact sm_mz fun j hj => mz_mul ((h j hj).at_ hd i hi) _
theorem Kil.comb {f : Ser p} (hf : f.poly) {m : Nat} {w : Nat → RowF} {v : RowF} (hv : Comb p n m w v) (h : ∀ j, j < m → Kil p n A f (w j)) : Kil p n A f v := by
  obtain ⟨c, hc⟩ := hv
  exact (Kil.sum hf c h).congr hc
/-- the vector that is 1 at one place -/
def uniF (i : Nat) : RowF := fun k => if k = i then 1 else 0
theorem comb_uni (v : RowF) : Comb p n n uniF v := ⟨v, fun j hj => by
  rw [sm_congr (g := fun k => if k = j then v k else 0) fun k _ => by
    unfold uniF
    by_cases e : k = j
    · rw [if_pos e, if_pos e.symm, Int.mul_one]
    · rw [if_neg e, if_neg (fun h => e h.symm), Int.mul_zero], sm_single v hj]⟩
theorem Kil.all {f : Ser p} (hf : f.poly) (h : ∀ i, i < n → Kil p n A f (uniF i)) (v : RowF) : Kil p n A f v := Kil.comb hf (comb_uni v) h

/-! ### free rows, one more -/
theorem Ind.snoc (hp : HasInv p) {r : Nat} {u : Nat → RowF} (h : Ind p n r u) (hn : ¬ Comb p n r u (u r)) : Ind p n (r + 1) u := by
  intro x hx
  by_cases h0 : x r % p = 0
  · have h1 := h x fun j hj => by
      have := hx j hj
      rw [sm, Int.add_emod, mz_mul' h0, Int.add_zero, Int.emod_emod] at this
      exact this
    intro k hk
    rcases Nat.lt_or_ge k r with c | c
    · exact h1 k c
    · obtain rfl : k = r := by omega
      exact h0
  · exfalso
    obtain ⟨b, hb⟩ := hp.2 _ h0
    refine hn ⟨fun k => -b * x k, fun j hj => ?_⟩
    have h2 := hx j hj
    rw [sm] at h2
    rw [sm_congr (g := fun k => -b * (x k * u k j)) fun k _ => by grind, sm_mul, mz_sub]
    rw [show u r j - -b * (sm r fun k => x k * u k j) = b * ((sm r fun k => x k * u k j) + x r * u r j) + -((x r * b - 1) * u r j) by grind]
    exact mz_add (mz_mul h2 _) (mz_neg (mz_mul' (mz_sub.1 (by rw [hb, hp.one])) _))
theorem Ind.bound (hp : HasInv p) {r : Nat} {u : Nat → RowF} (h : Ind p n r u) : r ≤ n := h.le hp fun k _ => comb_uni (u k)
/-- free rows go on, till one is made of those ahead -/
theorem Ind.grow (hp : HasInv p) {u : Nat → RowF} : ∀ m r, n - r ≤ m → Ind p n r u → ∃ s, r ≤ s ∧ s ≤ n ∧ Ind p n s u ∧ Comb p n s u (u s) := by
  intro m
  induction m with
  | zero =>
    intro r hr h
    have hb := h.bound hp
    refine ⟨r, Nat.le_refl _, hb, h, Classical.byContradiction fun hn => ?_⟩
    have := (h.snoc hp hn).bound hp
    omega
  | succ m ih =>
    intro r hr h
    by_cases hc : Comb p n r u (u r)
    · exact ⟨r, Nat.le_refl _, h.bound hp, h, hc⟩
    · have h1 := h.snoc hp hc
      obtain ⟨s, h2, h3⟩ := ih (r + 1) (by omega) h1
      exact ⟨s, by omega, h3⟩
theorem Ind.nil (u : Nat → RowF) : Ind p n 0 u := fun _ _ _ hk => absurd hk (Nat.not_lt_zero _)

/-- x to the power s less some of less degree -/
def topS (p : Int) (s : Nat) (c : Nat → Int) : Ser p := .of p fun k => if k = s then 1 else if k < s then - c k else 0
theorem topS_low (s : Nat) (c : Nat → Int) : (topS p s c).low (s + 1) := fun k hk => by
  show (if k = s then 1 else if k < s then - c k else 0) % p = 0
  rw [if_neg (by omega), if_neg (by omega)]; simp
theorem topS_top (hp : 2 ≤ p) (s : Nat) (c : Nat → Int) : (topS p s c).co s = 1 := by
  show (if s = s then 1 else if s < s then - c s else 0) % p = 1
  rw [if_pos rfl]; exact mod_small (by omega) (by omega)
theorem topS_do (s : Nat) (c : Nat → Int) (v : RowF) : Eqv p n (doF n A (s + 1) (topS p s c).co v) fun i => itF n A s v i - sm s fun k => c k * itF n A k v i := fun i _ => by
  have e : doF n A (s + 1) (topS p s c).co v i % p = (sm (s + 1) fun k => (if k = s then 1 else if k < s then - c k else 0) * itF n A k v i) % p := sm_mod fun _ _ => by
    show (_ % p) * _ % p = _
    rw [mm_l]
  rw [e, sm, if_pos rfl, sm_congr (g := fun k => -(c k * itF n A k v i)) fun k hk => by rw [if_neg (by omega), if_pos hk]; grind, sm_neg]
  show _ = (itF n A s v i - sm s fun k => c k * itF n A k v i) % p
  exact congrArg (· % p) (by omega)
theorem topS_kil {s : Nat} {v : RowF} {c : Nat → Int} (h : ∀ i, i < n → itF n A s v i % p = (sm s fun k => c k * itF n A k v i) % p) : Kil p n A (topS p s c) v :=
  ⟨s + 1, topS_low s c, fun i hi => by rw [topS_do s c v i hi]; exact mz_sub.1 (h i hi)⟩
/-- who is of less degree than the free powers, and makes 0, is 0 -/
theorem Ind.kil {s : Nat} {v : RowF} (h : Ind p n s fun k => itF n A k v) {f : Ser p} (hf : f.low s) (hk : Kil p n A f v) : f = 0 := by
  have h1 := h f.co (hk.at_ hf)
  refine Ser.ext_ fun k => ?_
  rw [Ser.zero_co]
  rcases Nat.lt_or_ge k s with c | c
  · rw [← f.ok k]; exact h1 k c
  · exact hf k c
/-- a vector's own polynomial is there, of no higher degree than there are places -/
theorem own_exists (hp : HasInv p) (v : RowF) : ∃ s g, s ≤ n ∧ g.low (s + 1) ∧ g.co s = 1 ∧ Kil p n A g v ∧ ∀ f : Ser p, f.low s → Kil p n A f v → f = 0 := by
  obtain ⟨s, -, h1, h2, c, h3⟩ := Ind.grow hp n 0 (by omega) (Ind.nil (p := p) (n := n) fun k => itF n A k v)
  exact ⟨s, topS p s c, h1, topS_low s c, topS_top hp.1 s c, topS_kil h3, fun f hf hk => h2.kil hf hk⟩

/-! ### the degree that is enough for all -/
theorem Comb.more {r s : Nat} {u u' : Nat → RowF} {v : RowF} (h : Comb p n r u v) (hr : r ≤ s) (e : ∀ k, k < r → u' k = u k) : Comb p n s u' v :=
  h.trans fun k hk => by rw [← e k hk]; exact Comb.one u' (by omega)
theorem Comb.map {r : Nat} {u : Nat → RowF} {v : RowF} (h : Comb p n r u v) (k : ∀ i, i < r → Comb p n r u (mapF n A (u i))) : Comb p n r u (mapF n A v) := by
  obtain ⟨c, hc⟩ := h
  have e : Eqv p n (mapF n A v) (fun i => sm r fun j => c j * mapF n A (u j) i) := fun i _ => by
    rw [map_mod hc i]
    exact congrArg (· % p) (congrFun (map_sum r c u) i)
  exact (Comb.sum k c).congr e
theorem min_step (hp : HasInv p) : ∀ m r (B : Nat → RowF) (h : Ser p), n - r ≤ m → Ind p n r B → (∀ k, k < r → Comb p n r B (mapF n A (B k))) → h.low (r + 1) → h.co r = 1 → (∀ k, k < r → Kil p n A h (B k)) →
    ∃ (s : Nat) (g : Ser p), s ≤ n ∧ g.low (s + 1) ∧ g.co s = 1 ∧ ∀ v, Kil p n A g v := by
  intro m
  induction m with
  | zero =>
    intro r B h hr hB hinv hl h1 hk
    refine ⟨r, h, hB.bound hp, hl, h1, fun v => Kil.comb ⟨_, hl⟩ (w := B) (m := r) ?_ hk⟩
    refine Classical.byContradiction fun hn => ?_
    have h2 : Ind p n (r + 1) fun k => if k = r then v else B k := by
      refine Ind.snoc hp (fun x hx => hB x fun j hj => ?_) fun hc => hn ?_
      · rw [← hx j hj]
        exact congrArg (· % p) (sm_congr fun k hk => by rw [if_neg (by omega)])
      · rw [if_pos rfl] at hc
        exact hc.more (Nat.le_refl _) fun k hk => by rw [if_neg (by omega)]
    have := h2.bound hp
    omega
  | succ m ih =>
    intro r B h hr hB hinv hl h1 hk
    by_cases hall : ∀ v, Comb p n r B v
    · exact ⟨r, h, hB.bound hp, hl, h1, fun v => Kil.comb ⟨_, hl⟩ (hall v) hk⟩
    · obtain ⟨e, he⟩ := Classical.not_forall.1 hall
      let B' : Nat → RowF := fun k => if k < r then B k else itF n A (k - r) e
      have b1 : ∀ k, k < r → B' k = B k := fun k hk => if_pos hk
      have b2 : ∀ j, B' (r + j) = itF n A j e := fun j => by
        show (if r + j < r then _ else itF n A (r + j - r) e) = _
        rw [if_neg (by omega), Nat.add_sub_cancel_left]
      have hB' : Ind p n r B' := fun x hx => hB x fun j hj => by
        rw [← hx j hj]
        exact congrArg (· % p) (sm_congr fun k hk => by rw [b1 k hk])
      have hB1 : Ind p n (r + 1) B' := hB'.snoc hp fun hc => he (by
        rw [show B' r = e from b2 0] at hc
        exact hc.more (Nat.le_refl _) fun k hk => (b1 k hk).symm)
      obtain ⟨t, t1, t2, t3, c, t4⟩ := Ind.grow hp n (r + 1) (by omega) hB1
      obtain ⟨s, rfl⟩ : ∃ s, t = r + s := ⟨t - r, by omega⟩
      -- what x ^ s less the combination makes of e lies in the span of B
      let c' : Nat → Int := fun j => c (r + j)
      have hg : Eqv p n (doF n A (s + 1) (topS p s c').co e) fun i => sm r fun k => c k * B k i := fun i hi => by
        rw [topS_do s c' e i hi]
        have h4 := t4 i hi
        rw [b2 s] at h4
        have h5 : (sm (r + s) fun k => c k * B' k i) = (sm r fun k => c k * B k i) + sm s fun j => c (r + j) * itF n A j e i := by
          rw [sm_join r _ s, sm_congr (n := r) (g := fun k => c k * B k i) fun k hk => by rw [b1 k hk], sm_congr (n := s) (g := fun j => c (r + j) * itF n A j e i) fun j _ => by rw [b2 j]]
        rw [h5] at h4
        rw [Int.sub_emod, h4, ← Int.sub_emod]
        show ((sm r fun k => c k * B k i) + (sm s fun j => c (r + j) * itF n A j e i) - sm s fun k => c (r + k) * itF n A k e i) % p = (sm r fun k => c k * B k i) % p
        exact congrArg (· % p) (by omega)
      have hke : Kil p n A (h * topS p s c') e := ⟨r + 1 + (s + 1), (hl.mul (topS_low s c')).mono (by omega), fun i hi => by
        rw [do_mul hl (topS_low s c') e i hi, do_mod hg (fun _ _ => rfl) i hi]
        exact (Kil.sum ⟨_, hl⟩ c hk).at_ hl i hi⟩
      have htop := Ser.mul_top hl (topS_low (p := p) s c')
      refine ih (r + s) B' (h * topS p s c') (by omega) t3 (fun k hk' => ?_) htop.2 ?_ fun k hk' => ?_
      · rcases Nat.lt_or_ge k r with q | q
        · rw [b1 k q]
          exact (hinv k q).more (by omega) fun k hk => b1 k hk
        · obtain ⟨j, rfl⟩ : ∃ j, k = r + j := ⟨k - r, by omega⟩
          rw [b2 j]
          show Comb p n (r + s) B' (itF n A (j + 1) e)
          rw [← b2 (j + 1)]
          rcases Nat.lt_or_ge (j + 1) s with q' | q'
          · exact Comb.one B' (by omega)
          · rw [show j + 1 = s by omega]
            exact ⟨c, t4⟩
      · rw [htop.1, h1, topS_top hp.1, Int.mul_one]; exact hp.one
      · rcases Nat.lt_or_ge k r with q | q
        · rw [b1 k q]
          exact (hk k q).mul' ⟨_, topS_low s c'⟩
        · obtain ⟨j, rfl⟩ : ∃ j, k = r + j := ⟨k - r, by omega⟩
          rw [b2 j]
          exact hke.it j
/-- some polynomial of no higher degree than there are places makes 0 of all -/
theorem min_exists (hp : HasInv p) (A : Nat → RowF) : ∃ (s : Nat) (g : Ser p), s ≤ n ∧ g.low (s + 1) ∧ g.co s = 1 ∧ ∀ v, Kil p n A g v :=
  min_step hp n 0 (fun _ _ => 0) 1 (by omega) (Ind.nil _) (fun _ hk => absurd hk (Nat.not_lt_zero _)) (Ser.low_C 1) (by
    show (Ser.C p 1).co 0 = 1
    rw [Ser.C_co, if_pos rfl, hp.one]) fun _ hk => absurd hk (Nat.not_lt_zero _)
end Go.Proofs.Ytfpmcajndgkgeaa
