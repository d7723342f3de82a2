/- What the texts KryM, Ref01, RingM show, in one text. -/
import Derived.Test.YthmmakkldkjnlaaBun07
import Derived.Test.YthmmakkldkjnlaaBun05
import Derived.Test.YthmmakkldkjnlaaBun06
/- A matrix done to a vector again and again, and polynomials of it: sums, products, who makes 0 of what; the degree that is always enough (in plain Lean; nothing of a program). -/
namespace Go.Proofs.Ythmmakkldkjnlaa
variable {p : Int} {n : Nat} {A : Nat → RowF}

/-- what a matrix makes of a vector -/
def mapF (n : Nat) (A : Nat → RowF) (v : RowF) : RowF := fun i => sm n fun k => A i k * v k
/-- .. so many times -/
def itF (n : Nat) (A : Nat → RowF) : Nat → RowF → RowF
  | 0, v => v
  | k + 1, v => mapF n A (itF n A k v)
/-- a polynomial of the matrix, of d numbers -/
def doF (n : Nat) (A : Nat → RowF) (d : Nat) (f : Nat → Int) (v : RowF) : RowF := fun i => sm d fun k => f k * itF n A k v i
/-- modulo p, on n places, the same -/
def Eqv (p : Int) (n : Nat) (u v : RowF) : Prop := ∀ i, i < n → u i % p = v i % p
theorem Eqv.refl (u : RowF) : Eqv p n u u := fun _ _ => rfl
theorem Eqv.symm {u v : RowF} (h : Eqv p n u v) : Eqv p n v u := fun i hi => (h i hi).symm
theorem Eqv.trans {u v w : RowF} (h : Eqv p n u v) (k : Eqv p n v w) : Eqv p n u w := fun i hi => (h i hi).trans (k i hi)
theorem itF_add (a b : Nat) (v : RowF) : itF n A (a + b) v = itF n A a (itF n A b v) := by
  induction a with
  | zero => rw [Nat.zero_add]; rfl
  | succ a ih => rw [Nat.add_right_comm]; show mapF n A _ = mapF n A _; rw [ih]
theorem itF_succ (k : Nat) (v : RowF) : itF n A (k + 1) v = itF n A k (mapF n A v) := itF_add k 1 v
theorem map_sum (m : Nat) (c : Nat → Int) (w : Nat → RowF) : mapF n A (fun i => sm m fun j => c j * w j i) = fun i => sm m fun j => c j * mapF n A (w j) i := by
  funext i
  unfold mapF
  rw [sm_congr (g := fun k => sm m fun j => c j * (A i k * w j k)) fun k _ => by rw [← sm_mul]; exact sm_congr fun j _ => by grind, sm_comm]
  exact sm_congr fun j _ => sm_mul _ _ _
theorem it_sum (k m : Nat) (c : Nat → Int) (w : Nat → RowF) : itF n A k (fun i => sm m fun j => c j * w j i) = fun i => sm m fun j => c j * itF n A k (w j) i := by
  induction k with
  | zero => rfl
  | succ k ih => show mapF n A _ = _; rw [ih, map_sum]; rfl
theorem do_sum (d : Nat) (f : Nat → Int) (m : Nat) (c : Nat → Int) (w : Nat → RowF) : doF n A d f (fun i => sm m fun j => c j * w j i) = fun i => sm m fun j => c j * doF n A d f (w j) i := by
  funext i
  unfold doF
  rw [sm_congr (g := fun k => sm m fun j => c j * (f k * itF n A k (w j) i)) fun k _ => by rw [it_sum, ← sm_mul]; exact sm_congr fun j _ => by grind, sm_comm]
  exact sm_congr fun j _ => sm_mul _ _ _
theorem do_it (d : Nat) (f : Nat → Int) (k : Nat) (v : RowF) : doF n A d f (itF n A k v) = itF n A k (doF n A d f v) := by
  unfold doF
  rw [it_sum]
  funext i
  exact sm_congr fun j _ => by rw [← itF_add, Nat.add_comm, itF_add]
theorem map_mod {u v : RowF} (h : Eqv p n u v) (i : Nat) : mapF n A u i % p = mapF n A v i % p := sm_mod fun k hk => by rw [← mm_r, h k hk, mm_r]
theorem it_mod {u v : RowF} (h : Eqv p n u v) : ∀ k, Eqv p n (itF n A k u) (itF n A k v)
  | 0 => h
  | k + 1 => fun i _ => map_mod (it_mod h k) i
theorem do_mod {u v : RowF} (h : Eqv p n u v) {d : Nat} {f g : Nat → Int} (hf : ∀ k, k < d → f k % p = g k % p) : Eqv p n (doF n A d f u) (doF n A d g v) := fun i hi =>
  sm_mod fun k hk => by rw [Int.mul_emod, hf k hk, it_mod h k i hi, ← Int.mul_emod]
theorem it_zero {u : RowF} (h : ∀ i, i < n → u i % p = 0) (k : Nat) : ∀ i, i < n → itF n A k u i % p = 0 := by
  induction k with
  | zero => exact h
  | succ k ih => exact fun i _ => sm_mz fun j hj => mz_mul (ih j hj) _
theorem do_zero {u : RowF} (h : ∀ i, i < n → u i % p = 0) (d : Nat) (f : Nat → Int) : ∀ i, i < n → doF n A d f u i % p = 0 := fun i hi =>
  sm_mz fun k _ => mz_mul (it_zero h k i hi) _
theorem sm_cut {f : Nat → Int} {d e : Nat} (hd : d ≤ e) (h : ∀ k, d ≤ k → f k = 0) : sm e f = sm d f := by
  rw [sm_piece (n := e) 0 d (by omega) (fun i hi => absurd hi (Nat.not_lt_zero _)) fun i h1 _ => h i (by omega)]
  exact sm_congr fun i _ => by rw [Nat.zero_add]
theorem do_cut {f : Ser p} {d e : Nat} (hf : f.low d) (hd : d ≤ e) (v : RowF) : doF n A e f.co v = doF n A d f.co v := by
  funext i
  exact sm_cut hd fun k hk => by rw [hf k hk, Int.zero_mul]
theorem do_same {f : Ser p} {d e : Nat} (hf : f.low d) (hg : f.low e) (v : RowF) : doF n A e f.co v = doF n A d f.co v := by
  rcases Nat.le_total d e with h | h
  · exact do_cut hf h v
  · exact (do_cut hg h v).symm
/-- a product's numbers, each with its own -/
theorem sm_conv {f g F : Nat → Int} {a b : Nat} (hf : ∀ i, a ≤ i → f i = 0) (hg : ∀ j, b ≤ j → g j = 0) : (sm (a + b) fun k => cv f g k * F k) = sm a fun i => sm b fun j => f i * g j * F (i + j) := by
  cases h : a + b with
  | zero =>
    obtain ⟨rfl, rfl⟩ : a = 0 ∧ b = 0 := by omega
    rfl
  | succ N =>
    have e1 : (sm (N + 1) fun k => cv f g k * F k) = sm (N + 1) fun k => sm (k + 1) fun i => f i * g (k - i) * F k := sm_congr fun k _ => by unfold cv; rw [sm_mul_r]
    rw [e1, sm_tri (fun k i => f i * g (k - i) * F k) N]
    have e2 : (sm (N + 1) fun j => sm (N + 1 - j) fun k => f j * g (j + k - j) * F (j + k)) = sm (N + 1) fun i => sm b fun j => f i * g j * F (i + j) := sm_congr fun i hi => by
      rcases Nat.lt_or_ge i a with c | c
      · rw [sm_cut (d := b) (by omega) fun k hk => by rw [hg _ (by omega)]; simp]
        exact sm_congr fun j _ => by rw [show i + j - i = j by omega]
      · rw [sm_zero fun k _ => by rw [hf i c]; simp, sm_zero fun k _ => by rw [hf i c]; simp]
    rw [e2]
    exact sm_cut (by omega) fun i hi => sm_zero fun j _ => by rw [hf i hi]; simp
theorem do_mul {f g : Ser p} {a b : Nat} (hf : f.low a) (hg : g.low b) (v : RowF) : Eqv p n (doF n A (a + b) (f * g).co v) (doF n A a f.co (doF n A b g.co v)) := fun i hi => by
  have e1 : doF n A (a + b) (f * g).co v i % p = (sm (a + b) fun k => cv f.co g.co k * itF n A k v i) % p := sm_mod fun k _ => by rw [Ser.mul_co, mm_l]
  rw [e1, sm_conv hf hg]
  refine congrArg (· % p) (sm_congr fun k _ => ?_)
  show _ = f.co k * itF n A k (fun i => sm b fun j => g.co j * itF n A j v i) i
  rw [it_sum, ← sm_mul]
  exact sm_congr fun j _ => by rw [itF_add, Int.mul_assoc]

theorem sm_join (a : Nat) (f : Nat → Int) : ∀ b, sm (a + b) f = sm a f + sm b fun j => f (a + j)
  | 0 => by show sm a f = sm a f + 0; rw [Int.add_zero]
  | b + 1 => by show sm (a + b) f + f (a + b) = sm a f + (sm b (fun j => f (a + j)) + f (a + b)); rw [sm_join a f b]; omega

/-! ### who makes 0 -/
/-- a polynomial of the matrix makes 0 of it -/
def Kil (p : Int) (n : Nat) (A : Nat → RowF) (f : Ser p) (v : RowF) : Prop := ∃ d, f.low d ∧ ∀ i, i < n → doF n A d f.co v i % p = 0
theorem Kil.at_ {f : Ser p} {v : RowF} (h : Kil p n A f v) {d : Nat} (hd : f.low d) : ∀ i, i < n → doF n A d f.co v i % p = 0 := by
  obtain ⟨e, he, h⟩ := h
  rw [do_same he hd]; exact h
theorem Kil.poly {f : Ser p} {v : RowF} (h : Kil p n A f v) : f.poly := ⟨h.choose, h.choose_spec.1⟩
theorem Kil.mul {f q : Ser p} {v : RowF} (h : Kil p n A f v) (hq : q.poly) : Kil p n A (q * f) v := by
  obtain ⟨a, ha⟩ := hq
  obtain ⟨b, hb, h⟩ := h
  refine ⟨a + b, (ha.mul hb).mono (by omega), fun i hi => ?_⟩
  rw [do_mul ha hb v i hi]
  exact do_zero h a _ i hi
theorem Kil.mul' {f q : Ser p} {v : RowF} (h : Kil p n A f v) (hq : q.poly) : Kil p n A (f * q) v := by rw [Ser.mul_comm]; exact h.mul hq
theorem Kil.zero (v : RowF) : Kil p n A 0 v := ⟨0, Ser.low_zero 0, fun _ _ => rfl⟩
theorem Kil.add {f g : Ser p} {v : RowF} (h : Kil p n A f v) (k : Kil p n A g v) : Kil p n A (f + g) v := by
  obtain ⟨a, ha⟩ := h.poly
  obtain ⟨b, hb⟩ := k.poly
  have h1 := h.at_ (ha.mono (show a ≤ a + b by omega))
  have h2 := k.at_ (hb.mono (show b ≤ a + b by omega))
  refine ⟨a + b, (ha.mono (by omega)).add (hb.mono (by omega)), fun i hi => ?_⟩
  have e : doF n A (a + b) (f + g).co v i % p = (doF n A (a + b) f.co v i + doF n A (a + b) g.co v i) % p := by
    unfold doF
    rw [← sm_add]
    exact sm_mod fun k _ => by rw [Ser.add_co, mm_l, Int.add_mul]
  rw [e]
  exact mz_add (h1 i hi) (h2 i hi)
theorem Kil.sub {f g : Ser p} {v : RowF} (h : Kil p n A f v) (k : Kil p n A g v) : Kil p n A (f - g) v := by
  obtain ⟨a, ha⟩ := h.poly
  obtain ⟨b, hb⟩ := k.poly
  have h1 := h.at_ (ha.mono (show a ≤ a + b by omega))
  have h2 := k.at_ (hb.mono (show b ≤ a + b by omega))
  refine ⟨a + b, (ha.mono (by omega)).sub (hb.mono (by omega)), fun i hi => ?_⟩
  have e : doF n A (a + b) (f - g).co v i % p = (doF n A (a + b) f.co v i + -doF n A (a + b) g.co v i) % p := by
    unfold doF
    rw [← sm_neg, ← sm_add]
    exact sm_mod fun k _ => by rw [Ser.sub_co, mm_l, Int.sub_mul]; exact congrArg (· % p) (by omega)
  rw [e]
  exact mz_add (h1 i hi) (mz_neg (h2 i hi))
theorem Kil.it {f : Ser p} {v : RowF} (h : Kil p n A f v) (k : Nat) : Kil p n A f (itF n A k v) := by
  obtain ⟨d, hd, h⟩ := h
  refine ⟨d, hd, fun i hi => ?_⟩
  rw [do_it]
  exact it_zero h k i hi
theorem Kil.congr {f : Ser p} {u v : RowF} (h : Kil p n A f u) (e : Eqv p n v u) : Kil p n A f v := by
  obtain ⟨d, hd, h⟩ := h
  exact ⟨d, hd, fun i hi => by rw [do_mod e (fun _ _ => rfl) i hi]; exact h i hi⟩
theorem Kil.sum {f : Ser p} (hf : f.poly) {m : Nat} (c : Nat → Int) {w : Nat → RowF} (h : ∀ j, j < m → Kil p n A f (w j)) : Kil p n A f fun i => sm m fun j => c j * w j i := by
  obtain ⟨d, hd⟩ := hf
  refine ⟨d, hd, fun i hi => ?_⟩
  rw [do_sum]
  exact sm_mz fun j hj => mz_mul ((h j hj).at_ hd i hi) _
theorem Kil.comb {f : Ser p} (hf : f.poly) {m : Nat} {w : Nat → RowF} {v : RowF} (hv : Comb p n m w v) (h : ∀ j, j < m → Kil p n A f (w j)) : Kil p n A f v := by
  obtain ⟨c, hc⟩ := hv
  exact (Kil.sum hf c h).congr hc
/-- the vector that is 1 at one place -/
def uniF (i : Nat) : RowF := fun k => if k = i then 1 else 0
theorem comb_uni (v : RowF) : Comb p n n uniF v := ⟨v, fun j hj => by
  rw [sm_congr (g := fun k => if k = j then v k else 0) fun k _ => by
    unfold uniF
    by_cases e : k = j
    · rw [if_pos e, if_pos e.symm, Int.mul_one]
    · rw [if_neg e, if_neg (fun h => e h.symm), Int.mul_zero], sm_single v hj]⟩
theorem Kil.all {f : Ser p} (hf : f.poly) (h : ∀ i, i < n → Kil p n A f (uniF i)) (v : RowF) : Kil p n A f v := Kil.comb hf (comb_uni v) h

/-! ### free rows, one more -/
theorem Ind.snoc (hp : HasInv p) {r : Nat} {u : Nat → RowF} (h : Ind p n r u) (hn : ¬ Comb p n r u (u r)) : Ind p n (r + 1) u := by
  intro x hx
  by_cases h0 : x r % p = 0
  · have h1 := h x fun j hj => by
      have := hx j hj
      rw [sm, Int.add_emod, mz_mul' h0, Int.add_zero, Int.emod_emod] at this
      exact this
    intro k hk
    rcases Nat.lt_or_ge k r with c | c
    · exact h1 k c
    · obtain rfl : k = r := by omega
      exact h0
  · exfalso
    obtain ⟨b, hb⟩ := hp.2 _ h0
    refine hn ⟨fun k => -b * x k, fun j hj => ?_⟩
    have h2 := hx j hj
    rw [sm] at h2
    rw [sm_congr (g := fun k => -b * (x k * u k j)) fun k _ => by grind, sm_mul, mz_sub]
    rw [show u r j - -b * (sm r fun k => x k * u k j) = b * ((sm r fun k => x k * u k j) + x r * u r j) + -((x r * b - 1) * u r j) by grind]
    exact mz_add (mz_mul h2 _) (mz_neg (mz_mul' (mz_sub.1 (by rw [hb, hp.one])) _))
theorem Ind.bound (hp : HasInv p) {r : Nat} {u : Nat → RowF} (h : Ind p n r u) : r ≤ n := h.le hp fun k _ => comb_uni (u k)
/-- free rows go on, till one is made of those ahead -/
theorem Ind.grow (hp : HasInv p) {u : Nat → RowF} : ∀ m r, n - r ≤ m → Ind p n r u → ∃ s, r ≤ s ∧ s ≤ n ∧ Ind p n s u ∧ Comb p n s u (u s) := by
  intro m
  induction m with
  | zero =>
    intro r hr h
    have hb := h.bound hp
    refine ⟨r, Nat.le_refl _, hb, h, Classical.byContradiction fun hn => ?_⟩
    have := (h.snoc hp hn).bound hp
    omega
  | succ m ih =>
    intro r hr h
    by_cases hc : Comb p n r u (u r)
    · exact ⟨r, Nat.le_refl _, h.bound hp, h, hc⟩
    · have h1 := h.snoc hp hc
      obtain ⟨s, h2, h3⟩ := ih (r + 1) (by omega) h1
      exact ⟨s, by omega, h3⟩
theorem Ind.nil (u : Nat → RowF) : Ind p n 0 u := fun _ _ _ hk => absurd hk (Nat.not_lt_zero _)

/-- x to the power s less some of less degree -/
def topS (p : Int) (s : Nat) (c : Nat → Int) : Ser p := .of p fun k => if k = s then 1 else if k < s then - c k else 0
theorem topS_low (s : Nat) (c : Nat → Int) : (topS p s c).low (s + 1) := fun k hk => by
  show (if k = s then 1 else if k < s then - c k else 0) % p = 0
  rw [if_neg (by omega), if_neg (by omega)]; simp
theorem topS_top (hp : 2 ≤ p) (s : Nat) (c : Nat → Int) : (topS p s c).co s = 1 := by
  show (if s = s then 1 else if s < s then - c s else 0) % p = 1
  rw [if_pos rfl]; exact mod_small (by omega) (by omega)
theorem topS_do (s : Nat) (c : Nat → Int) (v : RowF) : Eqv p n (doF n A (s + 1) (topS p s c).co v) fun i => itF n A s v i - sm s fun k => c k * itF n A k v i := fun i _ => by
  have e : doF n A (s + 1) (topS p s c).co v i % p = (sm (s + 1) fun k => (if k = s then 1 else if k < s then - c k else 0) * itF n A k v i) % p := sm_mod fun _ _ => by
    show (_ % p) * _ % p = _
    rw [mm_l]
  rw [e, sm, if_pos rfl, sm_congr (g := fun k => -(c k * itF n A k v i)) fun k hk => by rw [if_neg (by omega), if_pos hk]; grind, sm_neg]
  show _ = (itF n A s v i - sm s fun k => c k * itF n A k v i) % p
  exact congrArg (· % p) (by omega)
theorem topS_kil {s : Nat} {v : RowF} {c : Nat → Int} (h : ∀ i, i < n → itF n A s v i % p = (sm s fun k => c k * itF n A k v i) % p) : Kil p n A (topS p s c) v :=
  ⟨s + 1, topS_low s c, fun i hi => by rw [topS_do s c v i hi]; exact mz_sub.1 (h i hi)⟩
/-- who is of less degree than the free powers, and makes 0, is 0 -/
theorem Ind.kil {s : Nat} {v : RowF} (h : Ind p n s fun k => itF n A k v) {f : Ser p} (hf : f.low s) (hk : Kil p n A f v) : f = 0 := by
  have h1 := h f.co (hk.at_ hf)
  refine Ser.ext_ fun k => ?_
  rw [Ser.zero_co]
  rcases Nat.lt_or_ge k s with c | c
  · rw [← f.ok k]; exact h1 k c
  · exact hf k c
/-- a vector's own polynomial is there, of no higher degree than there are places -/
theorem own_exists (hp : HasInv p) (v : RowF) : ∃ s g, s ≤ n ∧ g.low (s + 1) ∧ g.co s = 1 ∧ Kil p n A g v ∧ ∀ f : Ser p, f.low s → Kil p n A f v → f = 0 := by
  obtain ⟨s, -, h1, h2, c, h3⟩ := Ind.grow hp n 0 (by omega) (Ind.nil (p := p) (n := n) fun k => itF n A k v)
  exact ⟨s, topS p s c, h1, topS_low s c, topS_top hp.1 s c, topS_kil h3, fun f hf hk => h2.kil hf hk⟩

/-! ### the degree that is enough for all -/
theorem Comb.more {r s : Nat} {u u' : Nat → RowF} {v : RowF} (h : Comb p n r u v) (hr : r ≤ s) (e : ∀ k, k < r → u' k = u k) : Comb p n s u' v :=
  h.trans fun k hk => by rw [← e k hk]; exact Comb.one u' (by omega)
theorem Comb.map {r : Nat} {u : Nat → RowF} {v : RowF} (h : Comb p n r u v) (k : ∀ i, i < r → Comb p n r u (mapF n A (u i))) : Comb p n r u (mapF n A v) := by
  obtain ⟨c, hc⟩ := h
  have e : Eqv p n (mapF n A v) (fun i => sm r fun j => c j * mapF n A (u j) i) := fun i _ => by
    rw [map_mod hc i]
    exact congrArg (· % p) (congrFun (map_sum r c u) i)
  exact (Comb.sum k c).congr e
theorem min_step (hp : HasInv p) : ∀ m r (B : Nat → RowF) (h : Ser p), n - r ≤ m → Ind p n r B → (∀ k, k < r → Comb p n r B (mapF n A (B k))) → h.low (r + 1) → h.co r = 1 → (∀ k, k < r → Kil p n A h (B k)) →
    ∃ (s : Nat) (g : Ser p), s ≤ n ∧ g.low (s + 1) ∧ g.co s = 1 ∧ ∀ v, Kil p n A g v := by
  intro m
  induction m with
  | zero =>
    intro r B h hr hB hinv hl h1 hk
    refine ⟨r, h, hB.bound hp, hl, h1, fun v => Kil.comb ⟨_, hl⟩ (w := B) (m := r) ?_ hk⟩
    refine Classical.byContradiction fun hn => ?_
    have h2 : Ind p n (r + 1) fun k => if k = r then v else B k := by
      refine Ind.snoc hp (fun x hx => hB x fun j hj => ?_) fun hc => hn ?_
      · rw [← hx j hj]
        exact congrArg (· % p) (sm_congr fun k hk => by rw [if_neg (by omega)])
      · rw [if_pos rfl] at hc
        exact hc.more (Nat.le_refl _) fun k hk => by rw [if_neg (by omega)]
    have := h2.bound hp
    omega
  | succ m ih =>
    intro r B h hr hB hinv hl h1 hk
    by_cases hall : ∀ v, Comb p n r B v
    · exact ⟨r, h, hB.bound hp, hl, h1, fun v => Kil.comb ⟨_, hl⟩ (hall v) hk⟩
    · obtain ⟨e, he⟩ := Classical.not_forall.1 hall
      let B' : Nat → RowF := fun k => if k < r then B k else itF n A (k - r) e
      have b1 : ∀ k, k < r → B' k = B k := fun k hk => if_pos hk
      have b2 : ∀ j, B' (r + j) = itF n A j e := fun j => by
        show (if r + j < r then _ else itF n A (r + j - r) e) = _
        rw [if_neg (by omega), Nat.add_sub_cancel_left]
      have hB' : Ind p n r B' := fun x hx => hB x fun j hj => by
        rw [← hx j hj]
        exact congrArg (· % p) (sm_congr fun k hk => by rw [b1 k hk])
      have hB1 : Ind p n (r + 1) B' := hB'.snoc hp fun hc => he (by
        rw [show B' r = e from b2 0] at hc
        exact hc.more (Nat.le_refl _) fun k hk => (b1 k hk).symm)
      obtain ⟨t, t1, t2, t3, c, t4⟩ := Ind.grow hp n (r + 1) (by omega) hB1
      obtain ⟨s, rfl⟩ : ∃ s, t = r + s := ⟨t - r, by omega⟩
      -- what x ^ s less the combination makes of e lies in the span of B
      let c' : Nat → Int := fun j => c (r + j)
      have hg : Eqv p n (doF n A (s + 1) (topS p s c').co e) fun i => sm r fun k => c k * B k i := fun i hi => by
        rw [topS_do s c' e i hi]
        have h4 := t4 i hi
        rw [b2 s] at h4
        have h5 : (sm (r + s) fun k => c k * B' k i) = (sm r fun k => c k * B k i) + sm s fun j => c (r + j) * itF n A j e i := by
          rw [sm_join r _ s, sm_congr (n := r) (g := fun k => c k * B k i) fun k hk => by rw [b1 k hk], sm_congr (n := s) (g := fun j => c (r + j) * itF n A j e i) fun j _ => by rw [b2 j]]
        rw [h5] at h4
        rw [Int.sub_emod, h4, ← Int.sub_emod]
        show ((sm r fun k => c k * B k i) + (sm s fun j => c (r + j) * itF n A j e i) - sm s fun k => c (r + k) * itF n A k e i) % p = (sm r fun k => c k * B k i) % p
        exact congrArg (· % p) (by omega)
      have hke : Kil p n A (h * topS p s c') e := ⟨r + 1 + (s + 1), (hl.mul (topS_low s c')).mono (by omega), fun i hi => by
        rw [do_mul hl (topS_low s c') e i hi, do_mod hg (fun _ _ => rfl) i hi]
        exact (Kil.sum ⟨_, hl⟩ c hk).at_ hl i hi⟩
      have htop := Ser.mul_top hl (topS_low (p := p) s c')
      refine ih (r + s) B' (h * topS p s c') (by omega) t3 (fun k hk' => ?_) htop.2 ?_ fun k hk' => ?_
      · rcases Nat.lt_or_ge k r with q | q
        · rw [b1 k q]
          exact (hinv k q).more (by omega) fun k hk => b1 k hk
        · obtain ⟨j, rfl⟩ : ∃ j, k = r + j := ⟨k - r, by omega⟩
          rw [b2 j]
          show Comb p n (r + s) B' (itF n A (j + 1) e)
          rw [← b2 (j + 1)]
          rcases Nat.lt_or_ge (j + 1) s with q' | q'
          · exact Comb.one B' (by omega)
          · rw [show j + 1 = s by omega]
            exact ⟨c, t4⟩
      · rw [htop.1, h1, topS_top hp.1, Int.mul_one]; exact hp.one
      · rcases Nat.lt_or_ge k r with q | q
        · rw [b1 k q]
          exact (hk k q).mul' ⟨_, topS_low s c'⟩
        · obtain ⟨j, rfl⟩ : ∃ j, k = r + j := ⟨k - r, by omega⟩
          rw [b2 j]
          exact hke.it j
/-- some polynomial of no higher degree than there are places makes 0 of all -/
theorem min_exists (hp : HasInv p) (A : Nat → RowF) : ∃ (s : Nat) (g : Ser p), s ≤ n ∧ g.low (s + 1) ∧ g.co s = 1 ∧ ∀ v, Kil p n A g v :=
  min_step hp n 0 (fun _ _ => 0) 1 (by omega) (Ind.nil _) (fun _ hk => absurd hk (Nat.not_lt_zero _)) (Ser.low_C 1) (by
    show (Ser.C p 1).co 0 = 1
    rw [Ser.C_co, if_pos rfl, hp.one]) fun _ hk => absurd hk (Nat.not_lt_zero _)
end Go.Proofs.Ythmmakkldkjnlaa
/- What the document's own answers for layer 1 are. -/
namespace Go.Proofs.Ythmmakkldkjnlaa
open Go.RowKit

set_option maxHeartbeats 400000 in
theorem rRight (p : Int) (w : World) (h0 : 0 ≤ p) (h1 : p ≤ 18446744073709551615) :
    Calls Try.prog 41 #[.int .u64 p] w fun e w' => e = .returned (.bool (rightB p)) ∧ w = w' := by
  by_cases h : 1 < p
  · by_cases h' : p ≤ 9223372036854775807
    all_goals
      go_enter Try.func41, Try.ntmps41
      go_wp2
      go_ret
      exact ⟨ret_bool (by simp [rightB]; omega), rfl⟩
  · go_enter Try.func41, Try.ntmps41
    go_wp2
    go_ret
    exact ⟨ret_bool (by simp [rightB]; omega), rfl⟩

set_option maxHeartbeats 400000 in
theorem rHas (p : Int) (v : Value) (xs : List Int) (w : World) (h0 : 0 ≤ p) (h1 : p ≤ 18446744073709551615) (hv : Ints .u64 w v xs) (hx : U64s xs) :
    Calls Try.prog 12 #[.int .u64 p, v] w fun e w' => e = .returned (.bool (hasB p xs)) ∧ w = w' := by
  obtain ⟨a, cap, rfl, hc1, hc2, hc⟩ := hv
  have Hc := hid hc; clear hc
  have Hx := hid hx; clear hx
  go_enter Try.func12, Try.ntmps12
  go_wp2_with fail
  go_loop [5] (fun i => ∃ k : Nat, k ≤ xs.length ∧ i = .int .i64 k ∧ ∀ j, j < k → xs.getD j 0 < p) (fun i => xs.length - (intOf i).toNat)
  case atStart => exact ⟨0, Nat.zero_le _, rfl, by simp⟩
  case round =>
    obtain ⟨k, hk, rfl, hall⟩ := hrel
    have Ha := hid hall; clear hall
    by_cases hlt : k < xs.length
    · obtain ⟨b, off, rfl, hb, hcell⟩ := Hc.out (by omega)
      have g := hcell k hlt
      have hg := U64s.get Hx.out hlt
      clear hcell
      have hn := hasB_no (p := p) k hlt
      generalize hxk : xs.getD k 0 = x at g hg hn
      have Hxk := hid hxk; clear hxk
      have Hn := hid hn; clear hn Hc
      by_cases hp : p ≤ x
      · replace Hn := hid (Hn.out hp)
        go_wp2_with fail
        go_ret
        exact ⟨ret_bool (by rw [Hn.out]), rfl⟩
      · go_wp2_with fail
        go_round
        case rel => exact ⟨k + 1, by omega, by go_num, fun j hj => by
          by_cases e : j = k
          · rw [e, Hxk.out]; omega
          · exact Ha.out j (by omega)⟩
        case measure => simp [intOf]; omega
    · have hall : ∀ x ∈ xs, x < p := by
        intro x hx
        obtain ⟨j, hj, rfl⟩ := List.mem_iff_getElem.1 hx
        have := Ha.out j (by omega)
        simpa [List.getD, List.getElem?_eq_getElem hj] using this
      have e : hasB p xs = rightB p := by
        unfold hasB
        rw [List.all_eq_true.2 (fun x hx => by simpa using hall x hx), Bool.and_true]
      have He := hid e; clear e hall
      go_wp2_with (go_at_call 41; refine (rRight _ _ h0 h1).mono ?_; rintro e w' ⟨rfl, rfl⟩)
      go_ret
      exact ⟨ret_bool He.out.symm, rfl⟩

set_option maxHeartbeats 400000 in
theorem rAdd (p a b r : Int) (w : World) (hp : rightB p = true) (ha0 : 0 ≤ a) (ha : a < p) (hb0 : 0 ≤ b) (hb : b < p) (h : (a + b) % p = r) :
    Calls Try.prog 45 #[.int .u64 p, .int .u64 a, .int .u64 b] w fun e w' => e = .returned (.int .u64 r) ∧ w = w' := by
  have hp2 := rightB_true hp
  have hp3 : p ≠ 0 := by omega
  have H := hid h
  clear h hp
  go_enter Try.func45, Try.ntmps45
  go_wp2_with fail
  go_ret
  exact ⟨ret_int H.out, rfl⟩
set_option maxHeartbeats 400000 in
theorem rSub (p a b r : Int) (w : World) (hp : rightB p = true) (ha0 : 0 ≤ a) (ha : a < p) (hb0 : 0 ≤ b) (hb : b < p) (h : (a - b) % p = r) :
    Calls Try.prog 14 #[.int .u64 p, .int .u64 a, .int .u64 b] w fun e w' => e = .returned (.int .u64 r) ∧ w = w' := by
  have hp2 := rightB_true hp
  have hp3 : p ≠ 0 := by omega
  have H := hid h
  clear h hp
  go_enter Try.func14, Try.ntmps14
  go_wp2_with fail
  go_ret
  exact ⟨ret_int (by rw [← H.out, show a + p - b = a - b + p by omega, Int.add_emod_right]), rfl⟩

theorem half_even {p a b h : Int} (hh : a * (b / 2) % p = h) (hb : b % 2 = 0) : (h + h) % p = a * b % p := by
  rw [← hh, ma_l, ma_r]
  congr 1
  have : b = b / 2 * 2 := by omega
  generalize b / 2 = c at *
  subst this; grind
theorem half_odd {p a b h g : Int} (hh : a * (b / 2) % p = h) (hg : (h + h) % p = g) (hb : b % 2 = 1) : (g + a) % p = a * b % p := by
  rw [← hg, ← hh, ma_l]
  have : b = b / 2 * 2 + 1 := by omega
  generalize b / 2 = c at *
  rw [mod_eq_iff]
  have e := Int.emod_def (a * c) p
  refine ⟨-2 * (a * c / p), ?_⟩
  rw [e, this]; grind
set_option maxHeartbeats 1000000 in
theorem rMul_all (n : Nat) : ∀ (p a b : Int) (w : World), b.toNat ≤ n → rightB p = true → 0 ≤ a → a < p → 0 ≤ b → b ≤ 18446744073709551615 →
    Calls Try.prog 46 #[.int .u64 p, .int .u64 a, .int .u64 b] w fun e w' => e = .returned (.int .u64 (a * b % p)) ∧ w = w' := by
  induction n with
  | zero =>
    intro p a b w hn hp ha0 ha hb0 hb
    obtain rfl : b = 0 := by omega
    go_enter Try.func46, Try.ntmps46
    go_wp2_with fail
    go_ret
    exact ⟨ret_int (by simp), rfl⟩
  | succ n ih =>
    intro p a b w hn hp ha0 ha hb0 hb
    by_cases h0 : b = 0
    · subst h0
      go_enter Try.func46, Try.ntmps46
      go_wp2_with fail
      go_ret
      exact ⟨ret_int (by simp), rfl⟩
    · have hp2 := rightB_true hp
      have t0 : (b == 0) = false := by simpa using h0
      have Ih := hid ih; clear ih
      obtain ⟨h, eh, h1, h2⟩ := name_mod (a * (b / 2)) hp2.1
      obtain ⟨g, eg, g1, g2⟩ := name_mod (h + h) hp2.1
      by_cases hb2 : b % 2 = 1
      · have t1 : (b % 2 == 1) = true := by simpa using hb2
        have E := hid (half_odd eh eg hb2)
        obtain ⟨r, er, r1, r2⟩ := name_mod (g + a) hp2.1
        have Er := hid er; have Eh := hid eh; have Eg := hid eg; have Hp := hid hp
        rw [er] at E
        clear hp eh eg er hb2 h0
        go_enter Try.func46, Try.ntmps46
        go_wp2_with fail
        refine (Ih.out p a (b / 2) _ (by omega) Hp.out ha0 ha (by omega) (by omega)).mono ?_
        rw [Eh.out]; rintro _ _ ⟨rfl, rfl⟩
        go_wp2_with fail
        refine (rAdd p h h g _ Hp.out h1 h2 h1 h2 Eg.out).mono ?_; rintro _ _ ⟨rfl, rfl⟩
        go_wp2_with fail
        refine (rAdd p g a r _ Hp.out g1 g2 ha0 ha Er.out).mono ?_; rintro _ _ ⟨rfl, rfl⟩
        go_wp2_with fail
        go_ret
        exact ⟨ret_int E.out, rfl⟩
      · have t1 : (b % 2 == 1) = false := by simpa using hb2
        have E := hid (half_even eh (by omega))
        rw [eg] at E
        have Eh := hid eh; have Eg := hid eg; have Hp := hid hp
        clear hp eh eg hb2 h0
        go_enter Try.func46, Try.ntmps46
        go_wp2_with fail
        refine (Ih.out p a (b / 2) _ (by omega) Hp.out ha0 ha (by omega) (by omega)).mono ?_
        rw [Eh.out]; rintro _ _ ⟨rfl, rfl⟩
        go_wp2_with fail
        refine (rAdd p h h g _ Hp.out h1 h2 h1 h2 Eg.out).mono ?_; rintro _ _ ⟨rfl, rfl⟩
        go_wp2_with fail
        go_ret
        exact ⟨ret_int E.out, rfl⟩
theorem rMul (p a b r : Int) (w : World) (hp : rightB p = true) (ha0 : 0 ≤ a) (ha : a < p) (hb0 : 0 ≤ b) (hb : b ≤ 18446744073709551615) (h : a * b % p = r) :
    Calls Try.prog 46 #[.int .u64 p, .int .u64 a, .int .u64 b] w fun e w' => e = .returned (.int .u64 r) ∧ w = w' :=
  h ▸ rMul_all b.toNat p a b w (Nat.le_refl _) hp ha0 ha hb0 hb


set_option maxHeartbeats 1000000 in
theorem rGcd (a b : Int) (w : World) (ha0 : 0 ≤ a) (ha : a ≤ 18446744073709551615) (hb0 : 0 ≤ b) (hb : b ≤ 18446744073709551615) :
    Calls Try.prog 97 #[.int .u64 a, .int .u64 b] w (Ret (.int .u64 (Int.gcd a b)) w) := by
  generalize hg : ((Int.gcd a b : Nat) : Int) = G
  have HG := hid hg; clear hg
  go_enter Try.func97, Try.ntmps97
  go_wp2_with fail
  go_loopw [0, 1] (fun u v wr => ∃ x y : Int, u = .int .u64 x ∧ v = .int .u64 y ∧ 0 ≤ x ∧ x ≤ 18446744073709551615 ∧ 0 ≤ y ∧ y ≤ 18446744073709551615 ∧ ((Int.gcd x y : Nat) : Int) = G ∧ Ext w wr) (fun _ v _ => (intOf v).toNat)
  case atStart => exact ⟨a, b, rfl, rfl, ha0, ha, hb0, hb, HG.out, (by repeat (first | exact Ext.refl _ | assumption | refine Ext.drew ?_ | refine Ext.drewN ?_ _ | refine Ext.alloc ?_ _ | refine Ext.trans ?_ (by assumption)))⟩
  case round =>
    obtain ⟨x, y, rfl, rfl, hx0, hx, hy0, hy, hg, hw⟩ := hrel
    by_cases h0 : 0 < y
    · have hs := gcd_step hx0 hy0
      have hm := Int.emod_nonneg x (show y ≠ 0 by omega)
      have hm2 := Int.emod_lt_of_pos x h0
      have hy1 : y ≠ 0 := by omega
      rw [← hs] at hg
      have Hg := hid hg; clear hg hs
      go_wp2_with fail
      go_quiet (fail)
      go_wp2_with fail
      go_roundw
      case rel => exact ⟨_, _, rfl, rfl, hy0, hy, hm, by omega, Hg.out, (by repeat (first | exact Ext.refl _ | assumption | refine Ext.drew ?_ | refine Ext.drewN ?_ _ | refine Ext.alloc ?_ _ | refine Ext.trans ?_ (by assumption)))⟩
      case measure => simp [intOf]; omega
    · obtain rfl : y = 0 := by omega
      rw [Int.gcd_zero_right] at hg
      have hg' : x = G := by omega
      have Hg := hid hg'; clear hg hg'
      go_wp2_with fail
      go_ret
      exact ⟨ret_int Hg.out, (by repeat (first | exact Ext.refl _ | assumption | refine Ext.drew ?_ | refine Ext.drewN ?_ _ | refine Ext.alloc ?_ _ | refine Ext.trans ?_ (by assumption)))⟩

theorem sub_mul_le (l n : Int) (hn : 0 < n) (hl : 0 ≤ l) : 0 ≤ l / n * n ∧ l / n * n ≤ l ∧ l - l / n * n = l % n := by
  have h1 := Int.ediv_mul_add_emod l n
  have h2 := Int.emod_nonneg l (show n ≠ 0 by omega)
  have h3 := Int.mul_nonneg (Int.ediv_nonneg hl (by omega) : 0 ≤ l / n) (show 0 ≤ n by omega)
  omega
theorem rGcd_as (a b g : Int) (w : World) (ha0 : 0 ≤ a) (ha : a ≤ 18446744073709551615) (hb0 : 0 ≤ b) (hb : b ≤ 18446744073709551615) (h : ((Int.gcd a b : Nat) : Int) = g) :
    Calls Try.prog 97 #[.int .u64 a, .int .u64 b] w (Ret (.int .u64 g) w) := h ▸ rGcd a b w ha0 ha hb0 hb
theorem unitB_gcd {p a : Int} (h : unitB p a = true) : ((Int.gcd p a : Nat) : Int) = 1 := by
  have : Int.gcd p a = 1 := by simpa [unitB] using h
  omega
theorem unitB_gcd' {p a : Int} (h : unitB p a = false) : (((Int.gcd p a : Nat) : Int) == 1) = false := by
  have : ¬ Int.gcd p a = 1 := by simpa [unitB] using h
  simp; omega
set_option maxHeartbeats 1000000 in
theorem rInv_zero (p a : Int) (w : World) (hp : rightB p = true) (ha0 : 0 ≤ a) (ha : a < p) (hu : unitB p a = false) :
    Calls Try.prog 89 #[.int .u64 p, .int .u64 a] w (Ret (.tuple #[.int .u64 0, .int .i64 5]) w) := by
  have hp2 := rightB_true hp
  have hg := unitB_gcd' hu
  obtain ⟨g, eg⟩ : ∃ g, ((Int.gcd p a : Nat) : Int) = g := ⟨_, rfl⟩
  rw [eg] at hg
  have Eg := hid eg; clear eg hp hu
  go_enter Try.func89, Try.ntmps89
  go_wp2_with fail
  refine (rGcd_as p a g _ (by omega) (by omega) ha0 (by omega) Eg.out).mono ?_; rintro _ w1 ⟨rfl, h1⟩
  go_wp2_with fail
  go_ret2
  exact ⟨rfl, (by repeat (first | exact Ext.refl _ | assumption | refine Ext.drew ?_ | refine Ext.drewN ?_ _ | refine Ext.alloc ?_ _ | refine Ext.trans ?_ (by assumption)))⟩
set_option maxHeartbeats 1000000 in
theorem rInv_yes (p a : Int) (w : World) (hp : rightB p = true) (ha0 : 0 ≤ a) (ha : a < p) (hu : unitB p a = true) :
    Calls Try.prog 89 #[.int .u64 p, .int .u64 a] w (Ret (.tuple #[.int .u64 (minv p a), .int .i64 0]) w) := by
  have hp2 := rightB_true hp
  have Hp := hid hp
  have Eg := hid (unitB_gcd hu)
  have Hu := hid hu
  obtain ⟨z, ez⟩ : ∃ z, minv p a = z := ⟨_, rfl⟩
  rw [ez]
  have Ez := hid ez; clear ez hp hu
  go_enter Try.func89, Try.ntmps89
  go_wp2_with fail
  refine (rGcd_as p a 1 _ (by omega) (by omega) ha0 (by omega) Eg.out).mono ?_; rintro _ w1 ⟨rfl, h1⟩
  go_wp2_with fail
  go_loopw [6, 7, 8, 9] (fun v6 v7 v8 v9 wr => ∃ l n s t : Int, v6 = .int .u64 l ∧ v7 = .int .u64 n ∧ v8 = .int .u64 s ∧ v9 = .int .u64 t ∧ 0 < l ∧ l ≤ p ∧ 0 ≤ n ∧ n < l ∧ 0 ≤ s ∧ s < p ∧ 0 ≤ t ∧ t < p ∧
    a * s % p = l % p ∧ a * t % p = n % p ∧ Int.gcd l n = Int.gcd p a ∧ Ext w wr) (fun _ v7 _ _ _ => (intOf v7).toNat)
  case atStart => exact ⟨p, a, 0, 1, rfl, rfl, rfl, rfl, by omega, by omega, ha0, ha, by omega, by omega, by omega, by omega, by simp, by simp, rfl, (by repeat (first | exact Ext.refl _ | assumption | refine Ext.drew ?_ | refine Ext.drewN ?_ _ | refine Ext.alloc ?_ _ | refine Ext.trans ?_ (by assumption)))⟩
  case round =>
    obtain ⟨l, n, s, t, rfl, rfl, rfl, rfl, hl0, hl, hn0, hn, hs0, hs, ht0, ht, h1, h2, h3, hw⟩ := hrel
    have H1 := hid h1; have H2 := hid h2; have H3 := hid h3; clear h1 h2 h3
    by_cases h0 : 0 < n
    · have hq0 : 0 ≤ l / n := Int.ediv_nonneg (by omega) (by omega)
      have hq1 : l / n ≤ l := Int.ediv_le_self _ (by omega)
      have hsm := sub_mul_le l n h0 (by omega)
      have hm := Int.emod_nonneg l (show n ≠ 0 by omega)
      have hm2 := Int.emod_lt_of_pos l h0
      have hn1 : n ≠ 0 := by omega
      have hp1 : p ≠ 0 := by omega
      obtain ⟨q, eq, q0, q1⟩ := name_mod (l / n) hp2.1
      obtain ⟨r, er, r0, r1⟩ := name_mod (q * t) hp2.1
      obtain ⟨u, eu, u0, u1⟩ := name_mod (s - r) hp2.1
      have hrd := inv_round H1.out H2.out
      have e1 : (s - l / n * t) % p = u := by rw [← eu, ← er, ms_r, ← ms_r, ← mm_l, eq, ms_r]
      rw [e1] at hrd
      have Hrd := hid hrd
      have hgs := gcd_step (a := l) (b := n) (by omega) hn0
      have Hgs := hid hgs
      have Er := hid er; have Eu := hid eu
      obtain ⟨hs1, hs2, hs3⟩ := hsm
      clear hrd hgs e1 er eu
      go_wp2_with fail
      refine (rMul p q t r _ Hp.out q0 q1 ht0 (by omega) Er.out).mono ?_; rintro _ _ ⟨rfl, rfl⟩
      go_wp2_with fail
      refine (rSub p s r u _ Hp.out hs0 hs r0 r1 Eu.out).mono ?_; rintro _ _ ⟨rfl, rfl⟩
      go_wp2_with fail
      go_roundw
      case rel => exact ⟨_, _, _, _, rfl, rfl, rfl, rfl, h0, by omega, hm, hm2, ht0, ht, u0, u1, H2.out, Hrd.out, by rw [Hgs.out, H3.out], (by repeat (first | exact Ext.refl _ | assumption | refine Ext.drew ?_ | refine Ext.drewN ?_ _ | refine Ext.alloc ?_ _ | refine Ext.trans ?_ (by assumption)))⟩
      case measure => simp [intOf]; omega
    · obtain rfl : n = 0 := by omega
      have h4 := inv_last (p := p) (a := a) (by omega) H3.out
      rw [Hu.out] at h4
      have h5 : l = 1 := by simpa using h4.symm
      subst h5
      have h6 := minv_eq hs0 hs (H1.out.trans (mod_small (by omega) (by omega)))
      rw [Ez.out] at h6
      have H6 := hid h6; clear h6 h4
      go_wp2_with fail
      go_ret2
      exact ⟨by rw [H6.out]; rfl, (by repeat (first | exact Ext.refl _ | assumption | refine Ext.drew ?_ | refine Ext.drewN ?_ _ | refine Ext.alloc ?_ _ | refine Ext.trans ?_ (by assumption)))⟩

end Go.Proofs.Ythmmakkldkjnlaa
/- Rings of an order (in plain Lean; nothing of a program). -/
namespace Go.Proofs.Ythmmakkldkjnlaa

/-- a step of an order, so many times -/
def itL (p : List Int) : Nat → Nat → Nat
  | 0, x => x
  | k + 1, x => (p.getD (itL p k x) 0).toNat
theorem itL_succ (p : List Int) (k x : Nat) : itL p (k + 1) x = (p.getD (itL p k x) 0).toNat := rfl
theorem itL_add (p : List Int) (i k x : Nat) : itL p (i + k) x = itL p i (itL p k x) := by
  induction i with
  | zero => rw [Nat.zero_add]; rfl
  | succ i ih => rw [show i + 1 + k = (i + k) + 1 by omega, itL_succ, itL_succ, ih]
variable {n : Nat} {p : List Int}
theorem Ord.it_lt (h : Ord n p) {x : Nat} (hx : x < n) (k : Nat) : itL p k x < n := by
  induction k with
  | zero => exact hx
  | succ k ih => have := h.get ih; rw [itL_succ]; omega
theorem Ord.step_inj (h : Ord n p) {x y : Nat} (hx : x < n) (hy : y < n) (e : (p.getD x 0).toNat = (p.getD y 0).toNat) : x = y := by
  have h1 := h.get hx
  have h2 := h.get hy
  exact h.inj hx hy (by omega)
theorem Ord.it_inj (h : Ord n p) {x y : Nat} (hx : x < n) (hy : y < n) (k : Nat) (e : itL p k x = itL p k y) : x = y := by
  induction k with
  | zero => exact e
  | succ k ih => exact ih (h.step_inj (h.it_lt hx k) (h.it_lt hy k) e)
/-- each number comes back -/
theorem Ord.comes_back (h : Ord n p) {x : Nat} (hx : x < n) : ∃ r, 1 ≤ r ∧ r ≤ n ∧ itL p r x = x := by
  by_cases hn : ((List.range (n + 1)).map fun k => ((itL p k x : Nat) : Int)).Nodup
  · exfalso
    have := nodup_len (r := upL n) hn fun y hy => by
      obtain ⟨k, _, rfl⟩ := List.mem_map.1 hy
      have := h.it_lt hx k
      exact upL_mem.2 (by omega)
    rw [upL_len] at this
    simp at this
    omega
  · rw [List.Nodup, List.pairwise_map, List.pairwise_iff_getElem] at hn
    simp only [List.length_range, List.getElem_range, Classical.not_forall] at hn
    obtain ⟨i, k, hi, hk, hik, e⟩ := hn
    have e' : itL p i x = itL p k x := by
      have := Classical.not_not.1 e
      omega
    refine ⟨k - i, by omega, by omega, ?_⟩
    rw [show k = i + (k - i) by omega, itL_add] at e'
    exact (h.it_inj hx (h.it_lt hx _) i e').symm
/-- how many steps a ring has -/
def perL (p : List Int) (x : Nat) : Nat := ((List.range p.length).findIdx? fun k => itL p (k + 1) x == x).getD 0 + 1
theorem Ord.per (h : Ord n p) {x : Nat} (hx : x < n) : 1 ≤ perL p x ∧ perL p x ≤ n ∧ itL p (perL p x) x = x ∧ ∀ k, 1 ≤ k → k < perL p x → itL p k x ≠ x := by
  obtain ⟨r, h1, h2, h3⟩ := h.comes_back hx
  have hl : p.length = n := h.len
  cases hf : (List.range p.length).findIdx? fun k => itL p (k + 1) x == x with
  | none =>
    rw [List.findIdx?_eq_none_iff] at hf
    have := hf (r - 1) (List.mem_range.2 (by omega))
    rw [show r - 1 + 1 = r by omega] at this
    simp [h3] at this
  | some k =>
    rw [List.findIdx?_eq_some_iff_getElem] at hf
    obtain ⟨hk, h4, h5⟩ := hf
    simp only [List.length_range] at hk
    simp only [List.getElem_range, beq_iff_eq] at h4
    unfold perL
    have e : ((List.range p.length).findIdx? fun k => itL p (k + 1) x == x) = some k := by
      rw [List.findIdx?_eq_some_iff_getElem]
      exact ⟨by simpa using hk, by simpa using h4, h5⟩
    rw [e]
    simp only [Option.getD_some]
    refine ⟨by omega, by omega, h4, fun j hj1 hj2 => ?_⟩
    have := h5 (j - 1) (by omega)
    simp only [List.getElem_range, show j - 1 + 1 = j by omega] at this
    simpa using this
/-- a number's ring, from it on -/
def ringL (p : List Int) (x : Nat) : List Int := tab (perL p x) fun k => (itL p k x : Int)
theorem ringL_len (p : List Int) (x : Nat) : (ringL p x).length = perL p x := tab_len _ _
theorem ringL_get {x k : Nat} (h : k < perL p x) : (ringL p x).getD k 0 = itL p k x := tab_get _ h
theorem ringL_mem {x : Nat} {y : Int} : y ∈ ringL p x ↔ ∃ k, k < perL p x ∧ y = itL p k x := by
  simp only [ringL, tab, List.mem_map, List.mem_range]
  exact ⟨fun ⟨k, h1, h2⟩ => ⟨k, h1, h2.symm⟩, fun ⟨k, h1, h2⟩ => ⟨k, h1, h2.symm⟩⟩
/-- so many rounds, and so many steps -/
theorem Ord.it_mod (h : Ord n p) {x : Nat} (hx : x < n) (k : Nat) : itL p k x = itL p (k % perL p x) x := by
  obtain ⟨h1, _, h3, _⟩ := h.per hx
  have hr : ∀ q, itL p (q * perL p x) x = x := fun q => by
    induction q with
    | zero => rw [Nat.zero_mul]; rfl
    | succ q ih => rw [Nat.succ_mul, itL_add, h3, ih]
  conv => lhs; rw [← Nat.mod_add_div k (perL p x), Nat.mul_comm, itL_add, hr]
theorem Ord.ring_mem (h : Ord n p) {x : Nat} (hx : x < n) (k : Nat) : (itL p k x : Int) ∈ ringL p x :=
  ringL_mem.2 ⟨k % perL p x, Nat.mod_lt _ (h.per hx).1, by rw [← h.it_mod hx]⟩
/-- who is in whose ring -/
theorem Ord.ring_back (h : Ord n p) {x y : Nat} (hx : x < n) (hy : (y : Int) ∈ ringL p x) : ∃ k, itL p k y = x := by
  obtain ⟨k, hk, e⟩ := ringL_mem.1 hy
  obtain ⟨_, _, h3, _⟩ := h.per hx
  have e' : y = itL p k x := by omega
  exact ⟨perL p x - k, by rw [e', ← itL_add, show perL p x - k + k = perL p x by omega, h3]⟩
theorem Ord.ring_nodup (h : Ord n p) {x : Nat} (hx : x < n) : (ringL p x).Nodup := by
  obtain ⟨_, _, _, h4⟩ := h.per hx
  unfold ringL tab List.Nodup
  rw [List.pairwise_map, List.pairwise_iff_getElem]
  simp only [List.length_range, List.getElem_range]
  intro i k _ hk hik e
  have e' : itL p i x = itL p (i + (k - i)) x := by rw [show i + (k - i) = k by omega]; omega
  rw [itL_add] at e'
  exact h4 (k - i) (by omega) (by omega) (h.it_inj hx (h.it_lt hx _) i e').symm
/-- is a number the least of its ring? -/
def leastB (p : List Int) (x : Nat) : Bool := (ringL p x).all fun y => decide ((x : Int) ≤ y)
theorem leastB_true {x : Nat} (h : leastB p x = true) {y : Int} (hy : y ∈ ringL p x) : (x : Int) ≤ y := by
  unfold leastB at h
  rw [List.all_eq_true] at h
  simpa using h y hy
/-- the rings of the numbers below one -/
def ringsTo (p : List Int) (n : Nat) : List (List Int) := ((List.range n).filter fun x => leastB p x).map (ringL p)
/-- the rings of an order -/
def ringsL (p : List Int) : List (List Int) := ringsTo p p.length
theorem ringsTo_succ (p : List Int) (n : Nat) : ringsTo p (n + 1) = if leastB p n then ringsTo p n ++ [ringL p n] else ringsTo p n := by
  unfold ringsTo
  rw [List.range_succ, List.filter_append]
  cases h : leastB p n <;> simp [h]
theorem ringsTo_mem {k : Nat} {l : List Int} : l ∈ ringsTo p k ↔ ∃ x, x < k ∧ leastB p x = true ∧ l = ringL p x := by
  simp only [ringsTo, List.mem_map, List.mem_filter, List.mem_range]
  exact ⟨fun ⟨x, ⟨h1, h2⟩, h3⟩ => ⟨x, h1, h2, h3.symm⟩, fun ⟨x, h1, h2, h3⟩ => ⟨x, ⟨h1, h2⟩, h3.symm⟩⟩
/-- each number's ring has a least one -/
theorem Ord.has_least (h : Ord n p) : ∀ m x : Nat, x ≤ m → x < n → ∃ s, s < n ∧ leastB p s = true ∧ (x : Int) ∈ ringL p s := by
  intro m
  induction m with
  | zero =>
    intro x hx hn
    obtain rfl : x = 0 := by omega
    refine ⟨0, hn, ?_, h.ring_mem hn 0⟩
    unfold leastB
    rw [List.all_eq_true]
    intro y hy
    obtain ⟨k, _, rfl⟩ := ringL_mem.1 hy
    simp
  | succ m ih =>
    intro x hx hn
    cases hl : leastB p x with
    | true => exact ⟨x, hn, hl, h.ring_mem hn 0⟩
    | false =>
      unfold leastB at hl
      rw [List.all_eq_false] at hl
      obtain ⟨y, hy, hlt⟩ := hl
      obtain ⟨k, hk, rfl⟩ := ringL_mem.1 hy
      have hlt : itL p k x < x := by simpa using hlt
      obtain ⟨s, h1, h2, h3⟩ := ih (itL p k x) (by omega) (h.it_lt hn k)
      refine ⟨s, h1, h2, ?_⟩
      obtain ⟨j, hj⟩ := h.ring_back hn hy
      obtain ⟨i, _, hi⟩ := ringL_mem.1 h3
      have hi : itL p k x = itL p i s := by omega
      have e : x = itL p (j + i) s := by rw [itL_add, ← hi, hj]
      rw [e]
      exact h.ring_mem h1 _
theorem Ord.rings_apart (h : Ord n p) {s t : Nat} (hs : s < n) (ht : t < n) (ls : leastB p s = true) (lt : leastB p t = true) {y : Int} (h1 : y ∈ ringL p s) (h2 : y ∈ ringL p t) : s = t := by
  obtain ⟨i, _, e1⟩ := ringL_mem.1 h1
  obtain ⟨k, _, e2⟩ := ringL_mem.1 h2
  have e : itL p i s = itL p k t := by omega
  obtain ⟨a, ha⟩ := h.ring_back hs (y := itL p i s) (by rw [← e1]; exact h1)
  obtain ⟨b, hb⟩ := h.ring_back ht (y := itL p k t) (by rw [← e2]; exact h2)
  have m1 := leastB_true lt (y := s) (by
    have := h.ring_mem ht (a + k)
    rwa [itL_add, ← e, ha] at this)
  have m2 := leastB_true ls (y := t) (by
    have := h.ring_mem hs (b + i)
    rwa [itL_add, e, hb] at this)
  omega
/-- all rings, one behind the other, have each number once -/
theorem Ord.rings_flat (h : Ord n p) : Ord n (ringsL p).flatten := by
  have hl : p.length = n := h.len
  refine Ord.of_perm (nodup_sub (upL_nodup n) (fun x hx => ?_) ?_)
  · obtain ⟨h1, h2⟩ := upL_mem.1 hx
    obtain ⟨s, hs, ls, hm⟩ := h.has_least x.toNat x.toNat (Nat.le_refl _) (by omega)
    rw [Int.toNat_of_nonneg h1] at hm
    exact List.mem_flatten.2 ⟨_, ringsTo_mem.2 ⟨s, by omega, ls, rfl⟩, hm⟩
  · rw [upL_len]
    have hn : (ringsL p).flatten.Nodup := by
      unfold ringsL
      rw [hl]
      have : ∀ k, k ≤ n → (ringsTo p k).flatten.Nodup := fun k => by
        induction k with
        | zero => intro _; simp [ringsTo]
        | succ k ih =>
          intro hk
          rw [ringsTo_succ]
          split
          case isTrue hlk =>
            rw [List.flatten_append, List.nodup_append]
            refine ⟨ih (by omega), by simpa using h.ring_nodup (by omega), fun a ha b hb e => ?_⟩
            subst e
            obtain ⟨l, hl1, hl2⟩ := List.mem_flatten.1 ha
            obtain ⟨x, hx, lx, rfl⟩ := ringsTo_mem.1 hl1
            have hb' : a ∈ ringL p k := by simpa using hb
            have := h.rings_apart (by omega) (by omega) lx hlk hl2 hb'
            omega
          case isFalse => exact ih (by omega)
      exact this n (Nat.le_refl _)
    have := nodup_len (r := upL n) hn fun y hy => by
      obtain ⟨l, hl1, hl2⟩ := List.mem_flatten.1 hy
      obtain ⟨x, hx, _, rfl⟩ := ringsTo_mem.1 hl1
      obtain ⟨k, _, rfl⟩ := ringL_mem.1 hl2
      have := h.it_lt (x := x) (by omega) k
      exact upL_mem.2 (by omega)
    rwa [upL_len] at this
/-- a step along a ring -/
theorem Ord.ring_step (h : Ord n p) {x : Nat} (hx : x < n) (k : Nat) : p.getD (itL p k x) 0 = itL p ((k + 1) % perL p x) x := by
  rw [← h.it_mod hx, itL_succ, Int.toNat_of_nonneg (h.get (h.it_lt hx k)).1]
end Go.Proofs.Ythmmakkldkjnlaa
