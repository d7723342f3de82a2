/- What the texts SvM, Sv1 show, in one text. -/
import Derived.Test.YtdfkojbfgodegaaBun13
import Derived.Test.YtdfkojbfgodegaaBun16
import Derived.Test.YtdfkojbfgodegaaBun10
import Derived.Test.YtdfkojbfgodegaaBun11
/- A matrix's parts, and what is found by them number by number: forward, backward, and what makes 0 of a matrix (in plain Lean; nothing of a program). -/
namespace Go.Proofs.Ytdfkojbfgodegaa
variable {p : Int} {m n r : Nat}

/-- parts by which one can solve -/
structure Pt (p : Int) (m n r : Nat) (C U : List (List Int)) (R K : List Nat) : Prop where
  ok : CupOk p m n C U
  ur : U.length = r
  rr : R.length = r
  kr : K.length = r
  rlow : ∀ k, k < r → R.getD k 0 < m
  klow : ∀ k, k < r → K.getD k 0 < n
  one : ∀ k, k < r → (C.getD (R.getD k 0) []).getD k 0 = 1
  low : ∀ k t, k < r → k < t → (C.getD (R.getD k 0) []).getD t 0 = 0
  unit : ∀ k, k < r → unitB p ((U.getD k []).getD (K.getD k 0) 0) = true
  zero : ∀ k j, j < k → k < r → (U.getD k []).getD (K.getD j 0) 0 = 0
theorem getD_out_nil {l : List Int} {k : Nat} (h : l.length ≤ k) : l.getD k 0 = 0 := by
  rw [List.getD, List.getElem?_eq_none h]; rfl
theorem take_pt {xs : List Int} (ok : MatOk p m n xs) (hf : Fld p) : Pt p m n (takeL p m n xs).U.length ((takeL p m n xs).C.map (padL (takeL p m n xs).U.length)) (takeL p m n xs).U (takeL p m n xs).rows (takeL p m n xs).cols := by
  have hp := (rightB_true ok.hp).1
  have h := takeL_ok (m := m) (n := n) hp hf ok.hx
  have hlow := fun k (hk : k < (takeL p m n xs).U.length) => h.low k (by rw [h.lr]; exact hk)
  refine ⟨take_parts ok hf, rfl, h.lr, h.lk, hlow, fun k hk => (h.row k hk).2.2.1, fun k hk => ?_, fun k t hk ht => ?_, fun k hk => (h.row k hk).2.2.2.1, h.zero⟩
  · rw [map_getD (by rw [h.lc]; exact hlow k hk), padL_get]
    exact (h.one k (by rw [h.lr]; exact hk)).2
  · rw [map_getD (by rw [h.lc]; exact hlow k hk), padL_get]
    exact getD_out_nil (by rw [(h.one k (by rw [h.lr]; exact hk)).1]; omega)
theorem mod_back {s c : Int} (h0 : 0 ≤ c) (h1 : c < p) : (s + (c - s % p) % p) % p = c := by
  rw [Int.add_emod, Int.emod_emod, ← Int.add_emod, show s + (c - s % p) = c + (s - s % p) by omega, Int.add_emod, Int.sub_emod, Int.emod_emod, Int.sub_self, Int.zero_emod, Int.add_zero, Int.emod_emod]
  exact mod_small h0 h1
theorem sm_dif (f g : Nat → Int) (n : Nat) : sm n f - sm n g = sm n fun i => f i - g i := by
  rw [Int.sub_eq_add_neg, ← sm_neg, ← sm_add]
  exact sm_congr fun _ _ => (Int.sub_eq_add_neg).symm
theorem sm_set (a : Nat → Int) {l : List Int} (hl : l.length = r) {k : Nat} (hk : k < r) (x : Int) : (sm r fun t => a t * (l.set k x).getD t 0) = (sm r fun t => a t * l.getD t 0) + a k * (x - l.getD k 0) := by
  rw [← sm_single (fun t => a t * (x - l.getD t 0)) hk, ← sm_add]
  refine sm_congr fun t _ => ?_
  rw [set_get l k t x (by rw [hl]; exact hk)]
  by_cases e : k = t
  · subst e; rw [if_pos rfl, if_pos rfl, Int.mul_sub]; omega
  · rw [if_neg e, if_neg (fun h => e h.symm), Int.add_zero]
theorem Rng.set'' {l : List Int} (h : Rng p l) (i : Nat) {x : Int} (h0 : 0 ≤ x) (h1 : x < p) : Rng p (l.set i x) := fun y hy => by
  rcases List.mem_or_eq_of_mem_set hy with h2 | rfl
  · exact h y h2
  · exact ⟨h0, h1⟩
section
variable {C U : List (List Int)} {R K : List Nat}
theorem Pt.two (P : Pt p m n r C U R K) : 2 ≤ p := (rightB_true P.ok.hp).1
theorem Pt.r_one (P : Pt p m n r C U R K) {t k : Nat} (ht : t < k) (hk : k < r) : R.getD t 0 ≠ R.getD k 0 := fun e => by
  have h1 := P.low t k (by omega) ht
  rw [e, P.one k hk] at h1
  omega
theorem Pt.k_one (P : Pt p m n r C U R K) {t k : Nat} (ht : t < k) (hk : k < r) : K.getD t 0 ≠ K.getD k 0 := fun e => by
  have h1 := P.zero k t ht hk
  rw [e] at h1
  exact unit_zero P.two (P.unit k hk) h1
/-- what the rests must make, found from the rows that count, so far -/
structure Fwd (p : Int) (r : Nat) (C : List (List Int)) (R : List Nat) (b : List Int) (k : Nat) (l : List Int) : Prop where
  len : l.length = r
  rng : Rng p l
  off : ∀ t, k ≤ t → l.getD t 0 = 0
  dot : ∀ j, j < k → (sm r fun t => (C.getD (R.getD j 0) []).getD t 0 * l.getD t 0) % p = b.getD (R.getD j 0) 0
theorem Fwd.start (hp : 2 ≤ p) (b : List Int) : Fwd p r C R b 0 (List.replicate r 0) :=
  ⟨List.length_replicate, zeros_rng hp r, fun t _ => replicate_get r t, fun _ hj => absurd hj (Nat.not_lt_zero _)⟩
theorem Fwd.step (P : Pt p m n r C U R K) {b : List Int} (hb : Rng p b) {k : Nat} (hk : k < r) {l : List Int} (h : Fwd p r C R b k l) {s x : Int} (hs : (sm r fun t => (C.getD (R.getD k 0) []).getD t 0 * l.getD t 0) % p = s) (hx : (b.getD (R.getD k 0) 0 - s) % p = x) : Fwd p r C R b (k + 1) (l.set k x) := by
  have hx2 := mod_range (b.getD (R.getD k 0) 0 - s) P.two
  rw [hx] at hx2
  refine ⟨by rw [List.length_set]; exact h.len, h.rng.set'' k hx2.1 hx2.2, fun t ht => ?_, fun j hj => ?_⟩
  · rw [set_get l k t x (by rw [h.len]; exact hk), if_neg (by omega)]
    exact h.off t (by omega)
  · rw [sm_set _ h.len hk, h.off k (Nat.le_refl _), Int.sub_zero]
    rcases Nat.lt_or_ge j k with c | c
    · rw [P.low j k (by omega) c, Int.zero_mul, Int.add_zero]
      exact h.dot j c
    · obtain rfl : j = k := by omega
      have hb2 := hb.getD P.two (R.getD j 0)
      rw [P.one j hk, Int.one_mul, ← hx, ← hs]
      exact mod_back hb2.1 hb2.2
/-- a vector that does for the rests from k on -/
structure Bck (p : Int) (n r : Nat) (U : List (List Int)) (K : List Nat) (made x0 : List Int) (k : Nat) (x : List Int) : Prop where
  len : x.length = n
  rng : Rng p x
  own : ∀ t, t < k → x.getD (K.getD t 0) 0 = 0
  off : ∀ j, j ∉ K → x.getD j 0 = x0.getD j 0
  dot : ∀ t, k ≤ t → t < r → (sm n fun j => (U.getD t []).getD j 0 * x.getD j 0) % p = made.getD t 0
theorem Bck.start {made x0 : List Int} (hl : x0.length = n) (hr : Rng p x0) (h0 : ∀ t, t < r → x0.getD (K.getD t 0) 0 = 0) : Bck p n r U K made x0 r x0 :=
  ⟨hl, hr, h0, fun _ _ => rfl, fun t h1 h2 => absurd h2 (by omega)⟩
theorem Bck.step (P : Pt p m n r C U R K) {made x0 : List Int} (hm : Rng p made) {k : Nat} (hk : k < r) {x : List Int} (h : Bck p n r U K made x0 (k + 1) x) {s d q : Int} (hs : (sm n fun j => (U.getD k []).getD j 0 * x.getD j 0) % p = s) (hd : (made.getD k 0 - s) % p = d)
    (hq : d * minv p ((U.getD k []).getD (K.getD k 0) 0) % p = q) : Bck p n r U K made x0 k (x.set (K.getD k 0) q) := by
  have hp := P.two
  have hq2 := mod_range (d * minv p ((U.getD k []).getD (K.getD k 0) 0)) hp
  rw [hq] at hq2
  have hkn := P.klow k hk
  have hz : x.getD (K.getD k 0) 0 = 0 := h.own k (by omega)
  refine ⟨by rw [List.length_set]; exact h.len, h.rng.set'' _ hq2.1 hq2.2, fun t ht => ?_, fun j hj => ?_, fun t h1 h2 => ?_⟩
  · rw [set_get x _ _ q (by rw [h.len]; exact hkn), if_neg (fun e => P.k_one ht hk e.symm)]
    exact h.own t (by omega)
  · rw [set_get x _ _ q (by rw [h.len]; exact hkn), if_neg (fun e => hj (by rw [← e, List.getD, List.getElem?_eq_getElem (by rw [P.kr]; exact hk)]; exact List.getElem_mem _))]
    exact h.off j hj
  · rw [sm_set _ h.len hkn, hz, Int.sub_zero]
    rcases Nat.lt_or_ge k t with c | c
    · rw [P.zero t k c h2, Int.zero_mul, Int.add_zero]
      exact h.dot t c h2
    · obtain rfl : t = k := by omega
      have hu := P.unit t hk
      have hub := ((P.ok.u _ (getD_mem [] (show t < U.length by rw [P.ur]; exact hk))).2).getD hp (K.getD t 0)
      have hi := unit_inv p _ hp hub.1 hu
      have hb2 := hm.getD hp t
      have e : (U.getD t []).getD (K.getD t 0) 0 * q % p = d % p := by
        rw [← hq, mm_r, show (U.getD t []).getD (K.getD t 0) 0 * (d * minv p ((U.getD t []).getD (K.getD t 0) 0)) = d * ((U.getD t []).getD (K.getD t 0) 0 * minv p ((U.getD t []).getD (K.getD t 0) 0)) by grind, ← mm_r, hi, Int.mul_one]
      rw [Int.add_emod, e, ← Int.add_emod, ← hd, ← hs]
      exact mod_back hb2.1 hb2.2
/-- a row that makes 0 of the parts from k on -/
structure Unm (p : Int) (m r : Nat) (C : List (List Int)) (R : List Nat) (i k : Nat) (y : List Int) : Prop where
  len : y.length = m
  rng : Rng p y
  own : ∀ t, t < k → y.getD (R.getD t 0) 0 = 0
  at_ : y.getD i 0 = 1
  off : ∀ j, j ∉ R → j ≠ i → y.getD j 0 = 0
  dot : ∀ t, k ≤ t → t < r → (sm m fun j => (C.getD j []).getD t 0 * y.getD j 0) % p = 0
theorem unit_get {i j : Nat} (hi : i < m) : ((List.replicate m (0 : Int)).set i 1).getD j 0 = if i = j then 1 else 0 := by
  rw [set_get _ i j 1 (by rw [List.length_replicate]; exact hi), replicate_get]
theorem Unm.start (hp : 2 ≤ p) {i : Nat} (hi : i < m) (hc : i ∉ R) (hr : R.length = r) : Unm p m r C R i r ((List.replicate m 0).set i 1) := by
  refine ⟨by rw [List.length_set, List.length_replicate], (zeros_rng hp m).set'' i (by omega) (by omega), fun t ht => ?_, by rw [unit_get hi, if_pos rfl], fun j _ hne => ?_, fun t h1 h2 => absurd h2 (by omega)⟩
  · rw [unit_get hi, if_neg (fun e => hc (by rw [e, List.getD, List.getElem?_eq_getElem (by rw [hr]; exact ht)]; exact List.getElem_mem _))]
  · rw [unit_get hi, if_neg (fun e => hne e.symm)]
theorem Unm.step (P : Pt p m n r C U R K) {i : Nat} (hc : i ∉ R) {k : Nat} (hk : k < r) {y : List Int} (h : Unm p m r C R i (k + 1) y) {s x : Int} (hs : (sm m fun j => (C.getD j []).getD k 0 * y.getD j 0) % p = s) (hx : (0 - s) % p = x) : Unm p m r C R i k (y.set (R.getD k 0) x) := by
  have hp := P.two
  have hx2 := mod_range (0 - s) hp
  rw [hx] at hx2
  have hkm := P.rlow k hk
  have hmem : R.getD k 0 ∈ R := by rw [List.getD, List.getElem?_eq_getElem (by rw [P.rr]; exact hk)]; exact List.getElem_mem _
  have hz : y.getD (R.getD k 0) 0 = 0 := h.own k (by omega)
  refine ⟨by rw [List.length_set]; exact h.len, h.rng.set'' _ hx2.1 hx2.2, fun t ht => ?_, ?_, fun j hj hne => ?_, fun t h1 h2 => ?_⟩
  · rw [set_get y _ _ x (by rw [h.len]; exact hkm), if_neg (fun e => P.r_one ht hk e.symm)]
    exact h.own t (by omega)
  · rw [set_get y _ _ x (by rw [h.len]; exact hkm), if_neg (fun e => hc (by rw [← e]; exact hmem))]
    exact h.at_
  · rw [set_get y _ _ x (by rw [h.len]; exact hkm), if_neg (fun e => hj (by rw [← e]; exact hmem))]
    exact h.off j hj hne
  · rw [sm_set (fun j => (C.getD j []).getD t 0) h.len hkm, hz, Int.sub_zero]
    rcases Nat.lt_or_ge k t with c | c
    · rw [P.low k t hk c, Int.zero_mul, Int.add_zero]
      exact h.dot t c h2
    · obtain rfl : t = k := by omega
      rw [P.one t hk, Int.one_mul, ← hx, ← hs]
      exact mod_back (by omega) (by omega)
end
section
variable {xs : List Int}
theorem row_parts (ok : MatOk p m n xs) (hf : Fld p) {i j : Nat} (hi : i < m) (hj : j < n) : (rowOf n xs i).getD j 0 % p = (sm (takeL p m n xs).U.length fun t => (((takeL p m n xs).C.map (padL (takeL p m n xs).U.length)).getD i []).getD t 0 * ((takeL p m n xs).U.getD t []).getD j 0) % p := by
  have h := takeL_ok (m := m) (n := n) (rightB_true ok.hp).1 hf ok.hx
  rw [h.full hi hj, map_getD (by rw [h.lc]; exact hi)]
  exact congrArg (· % p) (sm_congr fun t _ => by rw [padL_get])
/-- what the rows make of a vector: what the parts make of what the rests make -/
theorem app_parts {Q : Nat → List Int} {c u : Nat → Nat → Int} (h : ∀ i j, i < m → j < n → (Q i).getD j 0 % p = (sm r fun t => c i t * u t j) % p) (x : Nat → Int) {i : Nat} (hi : i < m) : appF n Q x i % p = (sm r fun t => c i t * (sm n fun j => u t j * x j)) % p := by
  have e1 : appF n Q x i % p = (sm n fun j => (sm r fun t => c i t * u t j) * x j) % p := sm_mod fun j hj => by rw [← mm_l, h i j hi hj, mm_l]
  rw [e1]
  refine congrArg (· % p) ?_
  rw [sm_congr (g := fun j => sm r fun t => c i t * (u t j * x j)) fun j _ => by
    rw [← sm_mul_r]
    exact sm_congr fun t _ => by rw [Int.mul_assoc], sm_comm]
  exact sm_congr fun t _ => sm_mul _ _ _
theorem lef_parts {Q : Nat → List Int} {c u : Nat → Nat → Int} (h : ∀ i j, i < m → j < n → (Q i).getD j 0 % p = (sm r fun t => c i t * u t j) % p) (y : Nat → Int) {j : Nat} (hj : j < n) : lefF m Q y j % p = (sm r fun t => (sm m fun i => c i t * y i) * u t j) % p := by
  have e1 : lefF m Q y j % p = (sm m fun i => y i * sm r fun t => c i t * u t j) % p := sm_mod fun i hi => by rw [← mm_r, h i j hi hj, mm_r]
  rw [e1]
  refine congrArg (· % p) ?_
  rw [sm_congr (g := fun i => sm r fun t => c i t * y i * u t j) fun i _ => by
    rw [← sm_mul]
    exact sm_congr fun t _ => by grind, sm_comm]
  exact sm_congr fun t _ => sm_mul_r _ _ _
variable {C U : List (List Int)} {R K : List Nat}
theorem isX_of (ok : MatOk p m n xs) (hf : Fld p) {b made x : List Int} (hb : b.length = m) (hr : Rng p b)
    (hm : ∀ i, i < m → (sm (takeL p m n xs).U.length fun t => (((takeL p m n xs).C.map (padL (takeL p m n xs).U.length)).getD i []).getD t 0 * made.getD t 0) % p = b.getD i 0)
    (h : Bck p n (takeL p m n xs).U.length (takeL p m n xs).U (takeL p m n xs).cols made (List.replicate n 0) 0 x) : IsX p m n xs b x := by
  have hp := (rightB_true ok.hp).1
  refine ⟨h.len, h.rng, times_eq hp hb hr fun i hi => ?_, fun j _ hc => by rw [h.off j hc, replicate_get]⟩
  have hb2 := hr.getD hp i
  rw [app_parts (fun i j hi hj => row_parts ok hf hi hj) (atV x) hi]
  have e : (sm (takeL p m n xs).U.length fun t => (((takeL p m n xs).C.map (padL (takeL p m n xs).U.length)).getD i []).getD t 0 * (sm n fun j => ((takeL p m n xs).U.getD t []).getD j 0 * atV x j)) % p = (sm (takeL p m n xs).U.length fun t => (((takeL p m n xs).C.map (padL (takeL p m n xs).U.length)).getD i []).getD t 0 * made.getD t 0) % p :=
    sm_mod fun t ht => by
      have := h.dot t (Nat.zero_le _) ht
      rw [← mm_r, show (sm n fun j => ((takeL p m n xs).U.getD t []).getD j 0 * atV x j) % p = made.getD t 0 from this]
  rw [e, hm i hi]
  exact (mod_small hb2.1 hb2.2).symm
/-- where the rows that count find something that isn't right, nothing is -/
theorem isX_not (ok : MatOk p m n xs) (hf : Fld p) {b made : List Int} 
    (h : Fwd p (takeL p m n xs).U.length ((takeL p m n xs).C.map (padL (takeL p m n xs).U.length)) (takeL p m n xs).rows b (takeL p m n xs).U.length made)
    {i : Nat} (hi : i < m) (hne : (sm (takeL p m n xs).U.length fun t => (((takeL p m n xs).C.map (padL (takeL p m n xs).U.length)).getD i []).getD t 0 * made.getD t 0) % p ≠ b.getD i 0) : ¬ ∃ x, IsX p m n xs b x := fun ⟨x, hx⟩ => by
  have hp := (rightB_true ok.hp).1
  have P := take_pt ok hf
  obtain ⟨z, hz⟩ : ∃ z : Nat → Int, (fun t => sm n fun j => ((takeL p m n xs).U.getD t []).getD j 0 * atV x j) = z := ⟨_, rfl⟩
  have key : ∀ i, i < m → (sm (takeL p m n xs).U.length fun t => (((takeL p m n xs).C.map (padL (takeL p m n xs).U.length)).getD i []).getD t 0 * z t) % p = b.getD i 0 := fun i hi => by
    have h1 := times_get (p := p) (n := n) (xs := xs) (x := x) hi
    rw [hx.sol, app_parts (fun i j hi hj => row_parts ok hf hi hj) (atV x) hi] at h1
    rw [h1, ← hz]
  have hsame : ∀ t, t < (takeL p m n xs).U.length → made.getD t 0 % p = z t % p := by
    intro t
    induction t using Nat.strongRecOn with
    | ind t ih =>
      intro ht
      have h1 := h.dot t ht
      have h2 := key _ (P.rlow t ht)
      rw [← h2, mz_sub, sm_dif] at h1
      have e : (sm (takeL p m n xs).U.length fun s => (((takeL p m n xs).C.map (padL (takeL p m n xs).U.length)).getD ((takeL p m n xs).rows.getD t 0) []).getD s 0 * made.getD s 0 - (((takeL p m n xs).C.map (padL (takeL p m n xs).U.length)).getD ((takeL p m n xs).rows.getD t 0) []).getD s 0 * z s) % p = (sm (takeL p m n xs).U.length fun s => if s = t then made.getD s 0 - z s else 0) % p := sm_mod fun s hs => by
        rcases Nat.lt_trichotomy s t with c | c | c
        · rw [if_neg (by omega), ← Int.mul_sub, mz_mul (mz_sub.1 (ih s c hs))]; simp
        · subst c
          rw [if_pos rfl, P.one s ht, Int.one_mul, Int.one_mul]
        · rw [if_neg (by omega), P.low t s ht c]; simp
      rw [e, sm_single (fun s => made.getD s 0 - z s) ht] at h1
      exact mz_sub.2 h1
  apply hne
  rw [← key i hi]
  exact sm_mod fun t ht => by rw [← mm_r, hsame t ht, mm_r]
theorem isK_of (ok : MatOk p m n xs) (hf : Fld p) {x : List Int} (hr : freeC n (takeL p m n xs).cols < n)
    (h : Bck p n (takeL p m n xs).U.length (takeL p m n xs).U (takeL p m n xs).cols (List.replicate (takeL p m n xs).U.length 0) ((List.replicate n 0).set (freeC n (takeL p m n xs).cols) 1) 0 x) : IsK p m n xs x := by
  have hp := (rightB_true ok.hp).1
  refine ⟨h.len, h.rng, times_eq hp List.length_replicate (zeros_rng hp m) fun i hi => ?_, ?_, fun j _ hc hne => ?_⟩
  · rw [app_parts (fun i j hi hj => row_parts ok hf hi hj) (atV x) hi]
    unfold atV
    rw [replicate_get]
    have : (sm (takeL p m n xs).U.length fun t => (((takeL p m n xs).C.map (padL (takeL p m n xs).U.length)).getD i []).getD t 0 * (sm n fun j => ((takeL p m n xs).U.getD t []).getD j 0 * x.getD j 0)) % p = 0 := sm_mz fun t ht => mz_mul (by rw [h.dot t (Nat.zero_le _) ht, replicate_get]) _
    rw [this]; simp
  · rw [h.off _ (freeC_not hr), unit_get hr, if_pos rfl]
  · rw [h.off j hc, unit_get hr, if_neg (fun e => hne e.symm)]
theorem isY_of (ok : MatOk p m n xs) (hf : Fld p) {i : Nat} {y : List Int}
    (h : Unm p m (takeL p m n xs).U.length ((takeL p m n xs).C.map (padL (takeL p m n xs).U.length)) (takeL p m n xs).rows i 0 y) : IsY p m n xs i y := by
  refine ⟨h.len, h.rng, left_zero fun k hk => ?_, h.at_, fun k _ hc hne => h.off k hc hne⟩
  rw [lef_parts (fun i j hi hj => row_parts ok hf hi hj) (atV y) hk]
  exact sm_mz fun t ht => mz_mul' (h.dot t (Nat.zero_le _) ht) _
end
end Go.Proofs.Ytdfkojbfgodegaa
/- Package solve: what is asked of a right side; a matrix's parts in memory; the numbers that a list hasn't. -/
namespace Go.Proofs.Ytdfkojbfgodegaa
open Go.RowKit Go.Maps

/-- whole numbers of a list -/
def zL (l : List Nat) : List Int := l.map fun k : Nat => (k : Int)
theorem zL_len (l : List Nat) : (zL l).length = l.length := List.length_map _
theorem zL_get (l : List Nat) (k : Nat) : (zL l).getD k 0 = ((l.getD k 0 : Nat) : Int) := by
  simp only [zL, List.getD, List.getElem?_map]
  cases l[k]? <;> rfl
theorem offE_yes {R : List Nat} {k : Nat} (h : k ∈ R) : offE (k + 1) R = offE k R := by simp [offE, List.range_succ, List.filter_append, h]
theorem offE_no {R : List Nat} {k : Nat} (h : k ∉ R) : offE (k + 1) R = offE k R ++ [k] := by simp [offE, List.range_succ, List.filter_append, h]
theorem offE_le (R : List Nat) (k : Nat) : (offE k R).length ≤ k := by
  have := List.length_filter_le (fun i => decide (i ∉ R)) (List.range k)
  rwa [List.length_range] at this

set_option maxHeartbeats 1000000 in
theorem svIndex (v : Value) (R : List Nat) (x : Nat) (w : World) (hv : Ints .i64 w v (zL R)) (hl : R.length ≤ 64) : Calls Try.prog 67 #[v, .int .i64 x] w fun e w' => e = .returned (.int .i64 (if x ∈ R then (R.idxOf x : Int) else -1)) ∧ w = w' := by
  obtain ⟨L, hL⟩ : ∃ L : Int, (if x ∈ R then (R.idxOf x : Int) else -1) = L := ⟨_, rfl⟩
  rw [hL]
  have HL := hid hL
  obtain ⟨a, cap, rfl, k1, k2, k3⟩ := hv
  rw [zL_len] at k1 k3 ⊢
  have K3 := hid k3
  obtain ⟨n, en⟩ : ∃ n, R.length = n := ⟨_, rfl⟩
  have En := hid en
  rw [en] at k1 K3 hl ⊢
  clear k3 hL en
  go_enter Try.func67, Try.ntmps67
  go_wp2_with fail
  go_loopw [8] (fun iv wr => ∃ (j : Nat), iv = .int .i64 j ∧ j ≤ n ∧ Hid (∀ t, t < j → R.getD t 0 ≠ x) ∧ w = wr) (fun iv _ => n - (intOf iv).toNat)
  case atStart => exact ⟨0, rfl, Nat.zero_le _, hid (fun t ht => absurd ht (Nat.not_lt_zero _)), rfl⟩
  case round =>
    obtain ⟨j, rfl, hj, hz, rfl⟩ := hrel
    by_cases hlt : j < n
    · obtain ⟨b, off, rfl, hb, hc⟩ := K3.out (by omega)
      have g1 := hc j hlt
      rw [zL_get] at g1
      obtain ⟨y, ey⟩ : ∃ y, R.getD j 0 = y := ⟨_, rfl⟩
      rw [ey] at g1
      have Ey := hid ey
      clear ey hc
      by_cases c : x = y
      · have e0 : ((x : Int) == (y : Int)) = true := by simp [c]
        have hLj := hid (show L = (j : Int) by
          have hjl : j < R.length := by rw [En.out]; exact hlt
          have e1 : R[j] = x := by rw [c, ← Ey.out, List.getD, List.getElem?_eq_getElem hjl]; rfl
          have hmem : x ∈ R := by rw [← e1]; exact List.getElem_mem hjl
          rw [← HL.out, if_pos hmem]
          congr 1
          refine Nat.le_antisymm ?_ ?_
          · refine Nat.le_of_not_lt fun hlt2 => ?_
            have := List.not_of_lt_findIdx (xs := R) (p := fun z => z == x) (i := j) (by unfold List.idxOf at hlt2; exact hlt2)
            rw [e1] at this; simp at this
          · refine Nat.le_of_not_lt fun hlt2 => ?_
            have h2 := hz.out _ hlt2
            rw [List.getD, List.getElem?_eq_getElem (Nat.lt_trans hlt2 hjl)] at h2
            exact h2 (List.getElem_idxOf _))
        clear c
        go_wp2_with fail
        go_ret
        exact ⟨ret_int hLj.out.symm, rfl⟩
      · have e0 : ((x : Int) == (y : Int)) = false := by simp; omega
        have C := hid c
        clear c
        go_wp2_with fail
        go_roundw
        case rel =>
          refine ⟨j + 1, by go_num, by omega, hid (fun t ht => ?_), by trivial⟩
          by_cases e : t = j
          · rw [e, Ey.out]; exact fun h => C.out h.symm
          · exact hz.out t (by omega)
        case measure => simp [intOf]; omega
    · obtain rfl : n = j := by omega
      have hLj := hid (show L = -1 by
        rw [← HL.out, if_neg]
        intro hm
        obtain ⟨t, ht, e⟩ := List.getElem_of_mem hm
        have := hz.out t (by rw [← En.out]; exact ht)
        rw [List.getD, List.getElem?_eq_getElem ht] at this
        exact this e)
      go_wp2_with fail
      go_ret
      exact ⟨ret_int hLj.out.symm, rfl⟩
theorem svContains (v : Value) (R : List Nat) (x : Nat) (w : World) (hv : Ints .i64 w v (zL R)) (hl : R.length ≤ 64) : Calls Try.prog 48 #[v, .int .i64 x] w fun e w' => e = .returned (.bool (decide (x ∈ R))) ∧ w = w' := by
  have C := hid (svIndex v R x w hv hl)
  obtain ⟨a, cap, rfl, k1, k2, k3⟩ := hv
  clear k3
  by_cases h : x ∈ R
  · rw [if_pos h] at C
    rw [decide_eq_true h]
    obtain ⟨i, hi⟩ : ∃ i, R.idxOf x = i := ⟨_, rfl⟩
    rw [hi] at C
    have t0 : decide ((0 : Int) ≤ (i : Int)) = true := decide_eq_true (by omega)
    clear h hi
    go_enter Try.func48, Try.ntmps48
    go_wp2_with (go_at_call 67; refine C.out.mono ?_; rintro _ _ ⟨rfl, rfl⟩)
    go_ret
    exact ⟨ret_bool (by simp), rfl⟩
  · rw [if_neg h] at C
    rw [decide_eq_false h]
    clear h
    go_enter Try.func48, Try.ntmps48
    go_wp2_with (go_at_call 67; refine C.out.mono ?_; rintro _ _ ⟨rfl, rfl⟩)
    go_ret
    exact ⟨ret_bool (by simp), rfl⟩

set_option maxHeartbeats 1000000 in
theorem svOthers (v : Value) (R : List Nat) (m : Nat) (w : World) (hv : Ints .i64 w v (zL R)) (hl : R.length ≤ 64) (hm : m ≤ 64) : Calls Try.prog 33 #[v, .int .i64 m] w (RetI (zL (offE m R)) w) := by
  obtain ⟨i0, hi, hz0, hz1, hz2⟩ := info_parts info_i64p
  have C := hid fun (x : Nat) (W : World) (hW : Ext w W) => svContains v R x W (hv.ext hW) hl
  have HO := hid fun k => offE_le R k
  obtain ⟨a, cap, rfl, k1, k2, k3⟩ := hv
  rw [zL_len] at k1 C ⊢
  clear k3
  go_enter Try.func33, Try.ntmps33
  go_wp2_with fail
  go_loopw [8, 5] (fun iv rv wr => ∃ k n : Nat, iv = .int .i64 k ∧ k ≤ m ∧ n ≤ k ∧ Hid ((offE k R).length = n) ∧ Hid (wr.ownsRow w.heap.size 3 1 rv n ((zL (offE k R)).map (Value.int .i64))) ∧ Ext w wr) (fun iv _ _ => m - (intOf iv).toNat)
  case atStart => exact ⟨0, 0, rfl, Nat.zero_le _, Nat.le_refl _, hid rfl, hid (World.ownsRow_nil _ _ _ _), Ext.refl _⟩
  case round =>
    obtain ⟨k, n, rfl, hk, hn, hnl, hown, hxr⟩ := hrel
    have hsz := hxr.size
    by_cases hlt : k < m
    · have C2 := hid (C.out k wr hxr)
      by_cases hc : k ∈ R
      · rw [decide_eq_true hc] at C2
        have E := hid (offE_yes hc)
        clear hc
        go_wp2_with (go_at_call 48; refine C2.out.mono ?_; rintro _ _ ⟨rfl, rfl⟩)
        go_roundw
        case rel => exact ⟨k + 1, n, by go_num, by omega, by omega, hid (by rw [E.out]; exact hnl.out), hid (by rw [E.out]; exact hown.out), hxr⟩
        case measure => simp [intOf]; omega
      · rw [decide_eq_false hc] at C2
        have E := hid (offE_no hc)
        have happ := hid (show ((zL (offE k R)).map (Value.int .i64)) ++ [Value.int .i64 (k : Int)] = (zL (offE (k + 1) R)).map (Value.int .i64) by rw [E.out]; simp [zL])
        clear hc
        go_wp2_with (first
          | (go_at_call 48; refine C2.out.mono ?_; rintro _ _ ⟨rfl, rfl⟩)
          | (at_builtin; refine wpList_append_own _ rfl _ _ 48 rfl w.heap.size 3 i0 (.int .i64 0) 1 8 Try.underlying48 hi hz0 hz1 hz2 rfl (by decide) _ _ _ rfl (hown.out.alloc _) ⟨wr.heap.size, 0, none⟩ 1 1 [.int .i64 (k : Int)] rfl rfl (cells_new _ _ _ (by simp)) (by simp [Value.oneCell']) (by simp only [maxLen]; omega) (by omega) (by simp; omega) ?_; intro v' w6 hown6 hgrow6 hnil6) | fail)
        go_roundw
        case rel => exact ⟨k + 1, n + 1, by go_num, by omega, by omega, hid (by rw [E.out, List.length_append, hnl.out]; rfl), hid (by rw [← happ.out]; exact hown6), (hxr.alloc _).grown hgrow6 (fun t e => (hown.out.lt t e).1)⟩
        case measure => simp [intOf]; omega
    · obtain rfl : k = m := by omega
      obtain ⟨a5, c5, rfl, c52, hI⟩ := owns_ints hown.out
      have HI := hid hI
      clear hI c52 hown
      go_wp2_with fail
      go_ret
      exact ⟨_, rfl, HI.out, hxr⟩

set_option maxHeartbeats 1000000 in
theorem svBeside (p r c : Int) (v u : Value) (xs b : List Int) (w : World) (h0 : 0 ≤ p) (h1 : p ≤ 18446744073709551615) (hv : Ints .u64 w v xs) (hu : Ints .u64 w u b) (hb : U64s b) :
    Calls Try.prog 30 #[.int .u64 p, matV r c v, u] w (Ret (.bool (vecB p r b)) w) := by
  have H := hid fun (W : World) (hW : Ext w W) => has_any p u b W h0 h1 (hu.ext hW) hb
  obtain ⟨B, hB⟩ : ∃ B, hasB p b = B := ⟨_, rfl⟩
  unfold vecB matV
  rw [hB] at H ⊢
  obtain ⟨a, cap, rfl, k1, k2, k3⟩ := hv
  obtain ⟨a', cap', rfl, k1', k2', k3'⟩ := hu
  clear k3 k3' hB hb
  have hA := hid (Blk.new w 25 #[.int .i64 r, .int .i64 c, .slice a xs.length cap])
  obtain ⟨b0, b1, b2⟩ := hA.out.at3
  by_cases e : (b.length : Int) = r
  · have e0 : ((b.length : Int) == r) = true := by simp [e]
    rw [decide_eq_true e]
    clear e
    go_enter Try.func30, Try.ntmps30
    go_wp2_with (go_at_call 28; refine (H.out _ (by repeat (first | exact Ext.refl _ | assumption | refine Ext.drew ?_ | refine Ext.drewN ?_ _ | refine Ext.alloc ?_ _ | refine Ext.trans ?_ (by assumption)))).mono ?_; rintro _ _ ⟨rfl, rfl⟩)
    go_ret
    exact ⟨ret_bool (by simp), (by repeat (first | exact Ext.refl _ | assumption | refine Ext.drew ?_ | refine Ext.drewN ?_ _ | refine Ext.alloc ?_ _ | refine Ext.trans ?_ (by assumption)))⟩
  · have e0 : ((b.length : Int) == r) = false := by simp [e]
    rw [decide_eq_false e]
    clear e
    go_enter Try.func30, Try.ntmps30
    go_wp2_with fail
    go_ret
    exact ⟨ret_bool (by simp), (by repeat (first | exact Ext.refl _ | assumption | refine Ext.drew ?_ | refine Ext.drewN ?_ _ | refine Ext.alloc ?_ _ | refine Ext.trans ?_ (by assumption)))⟩

end Go.Proofs.Ytdfkojbfgodegaa
