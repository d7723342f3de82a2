/- A matrix's parts, and what is found by them number by number: forward, backward, and what makes 0 of a matrix (in plain Lean; nothing of a program). -/
import Derived.Test.YtjdbkbbhjiemdaaSolB1
import Derived.Test.YtjdbkbbhjiemdaaSolB2
namespace Go.Proofs.Ytjdbkbbhjiemdaa
variable {p : Int} {m n r : Nat}

/-- parts by which one can solve -/
structure Pt (p : Int) (m n r : Nat) (C U : List (List Int)) (R K : List Nat) : Prop where
  ok : CupOk p m n C U
  ur : U.length = r
  rr : R.length = r
  kr : K.length = r
  rlow : ∀ k, k < r → R.getD k 0 < m
  klow : ∀ k, k < r → K.getD k 0 < n
  one : ∀ k, k < r → (C.getD (R.getD k 0) []).getD k 0 = 1
  low : ∀ k t, k < r → k < t → (C.getD (R.getD k 0) []).getD t 0 = 0
  unit : ∀ k, k < r → unitB p ((U.getD k []).getD (K.getD k 0) 0) = true
  zero : ∀ k j, j < k → k < r → (U.getD k []).getD (K.getD j 0) 0 = 0
theorem getD_out_nil {l : List Int} {k : Nat} (h : l.length ≤ k) : l.getD k 0 = 0 := by
  rw [List.getD, List.getElem?_eq_none h]; rfl
theorem take_pt {xs : List Int} (ok : MatOk p m n xs) (hf : Fld p) : Pt p m n (takeL p m n xs).U.length ((takeL p m n xs).C.map (padL (takeL p m n xs).U.length)) (takeL p m n xs).U (takeL p m n xs).rows (takeL p m n xs).cols := by
  have hp := (rightB_true ok.hp).1
  have h := takeL_ok (m := m) (n := n) hp hf ok.hx
  have hlow := fun k (hk : k < (takeL p m n xs).U.length) => h.low k (by rw [h.lr]; exact hk)
  refine ⟨take_parts ok hf, rfl, h.lr, h.lk, hlow, fun k hk => (h.row k hk).2.2.1, fun k hk => ?_, fun k t hk ht => ?_, fun k hk => (h.row k hk).2.2.2.1, h.zero⟩
  · rw [map_getD (by rw [h.lc]; exact hlow k hk), padL_get]
    exact (h.one k (by rw [h.lr]; exact hk)).2
  · rw [map_getD (by rw [h.lc]; exact hlow k hk), padL_get]
    exact getD_out_nil (by rw [(h.one k (by rw [h.lr]; exact hk)).1]; omega)
theorem mod_back {s c : Int} (h0 : 0 ≤ c) (h1 : c < p) : (s + (c - s % p) % p) % p = c := by
  rw [Int.add_emod, Int.emod_emod, ← Int.add_emod, show s + (c - s % p) = c + (s - s % p) by omega, Int.add_emod, Int.sub_emod, Int.emod_emod, Int.sub_self, Int.zero_emod, Int.add_zero, Int.emod_emod]
  exact mod_small h0 h1
theorem sm_dif (f g : Nat → Int) (n : Nat) : sm n f - sm n g = sm n fun i => f i - g i := by
  rw [Int.sub_eq_add_neg, ← sm_neg, ← sm_add]
  exact sm_congr fun _ _ => (Int.sub_eq_add_neg).symm
theorem sm_set (a : Nat → Int) {l : List Int} (hl : l.length = r) {k : Nat} (hk : k < r) (x : Int) : (sm r fun t => a t * (l.set k x).getD t 0) = (sm r fun t => a t * l.getD t 0) + a k * (x - l.getD k 0) := by
  rw [← sm_single (fun t => a t * (x - l.getD t 0)) hk, ← sm_add]
  refine sm_congr fun t _ => ?_
  rw [set_get l k t x (by rw [hl]; exact hk)]
  by_cases e : k = t
  · subst e; rw [if_pos rfl, if_pos rfl, Int.mul_sub]; omega
  · rw [if_neg e, if_neg (fun h => e h.symm), Int.add_zero]
theorem Rng.set'' {l : List Int} (h : Rng p l) (i : Nat) {x : Int} (h0 : 0 ≤ x) (h1 : x < p) : Rng p (l.set i x) := fun y hy => by
  rcases List.mem_or_eq_of_mem_set hy with h2 | rfl
  · exact h y h2
  · exact ⟨h0, h1⟩
section
variable {C U : List (List Int)} {R K : List Nat}
theorem Pt.two (P : Pt p m n r C U R K) : 2 ≤ p := (rightB_true P.ok.hp).1
theorem Pt.r_one (P : Pt p m n r C U R K) {t k : Nat} (ht : t < k) (hk : k < r) : R.getD t 0 ≠ R.getD k 0 := fun e => by
  have h1 := P.low t k (by omega) ht
  rw [e, P.one k hk] at h1
  omega
theorem Pt.k_one (P : Pt p m n r C U R K) {t k : Nat} (ht : t < k) (hk : k < r) : K.getD t 0 ≠ K.getD k 0 := fun e => by
  have h1 := P.zero k t ht hk
  rw [e] at h1
  exact unit_zero P.two (P.unit k hk) h1
/-- what the rests must make, found from the rows that count, so far -/
structure Fwd (p : Int) (r : Nat) (C : List (List Int)) (R : List Nat) (b : List Int) (k : Nat) (l : List Int) : Prop where
  len : l.length = r
  rng : Rng p l
  off : ∀ t, k ≤ t → l.getD t 0 = 0
  dot : ∀ j, j < k → (sm r fun t => (C.getD (R.getD j 0) []).getD t 0 * l.getD t 0) % p = b.getD (R.getD j 0) 0
theorem Fwd.start (hp : 2 ≤ p) (b : List Int) : Fwd p r C R b 0 (List.replicate r 0) :=
  ⟨List.length_replicate, zeros_rng hp r, fun t _ => replicate_get r t, fun _ hj => absurd hj (Nat.not_lt_zero _)⟩
theorem Fwd.step (P : Pt p m n r C U R K) {b : List Int} (hb : Rng p b) {k : Nat} (hk : k < r) {l : List Int} (h : Fwd p r C R b k l) {s x : Int} (hs : (sm r fun t => (C.getD (R.getD k 0) []).getD t 0 * l.getD t 0) % p = s) (hx : (b.getD (R.getD k 0) 0 - s) % p = x) : Fwd p r C R b (k + 1) (l.set k x) := by
  have hx2 := mod_range (b.getD (R.getD k 0) 0 - s) P.two
  rw [hx] at hx2
  refine ⟨by rw [List.length_set]; exact h.len, h.rng.set'' k hx2.1 hx2.2, fun t ht => ?_, fun j hj => ?_⟩
  · rw [set_get l k t x (by rw [h.len]; exact hk), if_neg (by omega)]
    exact h.off t (by omega)
  · rw [sm_set _ h.len hk, h.off k (Nat.le_refl _), Int.sub_zero]
    rcases Nat.lt_or_ge j k with c | c
    · rw [P.low j k (by omega) c, Int.zero_mul, Int.add_zero]
      exact h.dot j c
    · obtain rfl : j = k := by omega
      have hb2 := hb.getD P.two (R.getD j 0)
      rw [P.one j hk, Int.one_mul, ← hx, ← hs]
      exact mod_back hb2.1 hb2.2
/-- a vector that does for the rests from k on -/
structure Bck (p : Int) (n r : Nat) (U : List (List Int)) (K : List Nat) (made x0 : List Int) (k : Nat) (x : List Int) : Prop where
  len : x.length = n
  rng : Rng p x
  own : ∀ t, t < k → x.getD (K.getD t 0) 0 = 0
  off : ∀ j, j ∉ K → x.getD j 0 = x0.getD j 0
  dot : ∀ t, k ≤ t → t < r → (sm n fun j => (U.getD t []).getD j 0 * x.getD j 0) % p = made.getD t 0
theorem Bck.start {made x0 : List Int} (hl : x0.length = n) (hr : Rng p x0) (h0 : ∀ t, t < r → x0.getD (K.getD t 0) 0 = 0) : Bck p n r U K made x0 r x0 :=
  ⟨hl, hr, h0, fun _ _ => rfl, fun t h1 h2 => absurd h2 (by omega)⟩
theorem Bck.step (P : Pt p m n r C U R K) {made x0 : List Int} (hm : Rng p made) {k : Nat} (hk : k < r) {x : List Int} (h : Bck p n r U K made x0 (k + 1) x) {s d q : Int} (hs : (sm n fun j => (U.getD k []).getD j 0 * x.getD j 0) % p = s) (hd : (made.getD k 0 - s) % p = d)
    (hq : d * minv p ((U.getD k []).getD (K.getD k 0) 0) % p = q) : Bck p n r U K made x0 k (x.set (K.getD k 0) q) := by
  have hp := P.two
  have hq2 := mod_range (d * minv p ((U.getD k []).getD (K.getD k 0) 0)) hp
  rw [hq] at hq2
  have hkn := P.klow k hk
  have hz : x.getD (K.getD k 0) 0 = 0 := h.own k (by omega)
  refine ⟨by rw [List.length_set]; exact h.len, h.rng.set'' _ hq2.1 hq2.2, fun t ht => ?_, fun j hj => ?_, fun t h1 h2 => ?_⟩
  · rw [set_get x _ _ q (by rw [h.len]; exact hkn), if_neg (fun e => P.k_one ht hk e.symm)]
    exact h.own t (by omega)
  · rw [set_get x _ _ q (by rw [h.len]; exact hkn), if_neg (fun e => hj (by rw [← e, List.getD, List.getElem?_eq_getElem (by rw [P.kr]; exact hk)]; exact List.getElem_mem _))]
    exact h.off j hj
  · rw [sm_set _ h.len hkn, hz, Int.sub_zero]
    rcases Nat.lt_or_ge k t with c | c
    · rw [P.zero t k c h2, Int.zero_mul, Int.add_zero]
      exact h.dot t c h2
    · obtain rfl : t = k := by omega
      have hu := P.unit t hk
      have hub := ((P.ok.u _ (getD_mem [] (show t < U.length by rw [P.ur]; exact hk))).2).getD hp (K.getD t 0)
      have hi := unit_inv p _ hp hub.1 hu
      have hb2 := hm.getD hp t
      have e : (U.getD t []).getD (K.getD t 0) 0 * q % p = d % p := by
        rw [← hq, mm_r, show (U.getD t []).getD (K.getD t 0) 0 * (d * minv p ((U.getD t []).getD (K.getD t 0) 0)) = d * ((U.getD t []).getD (K.getD t 0) 0 * minv p ((U.getD t []).getD (K.getD t 0) 0)) by grind, ← mm_r, hi, Int.mul_one]
      rw [Int.add_emod, e, ← Int.add_emod, ← hd, ← hs]
      exact mod_back hb2.1 hb2.2
/-- a row that makes 0 of the parts from k on -/
structure Unm (p : Int) (m r : Nat) (C : List (List Int)) (R : List Nat) (i k : Nat) (y : List Int) : Prop where
  len : y.length = m
  rng : Rng p y
  own : ∀ t, t < k → y.getD (R.getD t 0) 0 = 0
  at_ : y.getD i 0 = 1
  off : ∀ j, j ∉ R → j ≠ i → y.getD j 0 = 0
  dot : ∀ t, k ≤ t → t < r → (sm m fun j => (C.getD j []).getD t 0 * y.getD j 0) % p = 0
theorem unit_get {i j : Nat} (hi : i < m) : ((List.replicate m (0 : Int)).set i 1).getD j 0 = if i = j then 1 else 0 := by
  rw [set_get _ i j 1 (by rw [List.length_replicate]; exact hi), replicate_get]
theorem Unm.start (hp : 2 ≤ p) {i : Nat} (hi : i < m) (hc : i ∉ R) (hr : R.length = r) : Unm p m r C R i r ((List.replicate m 0).set i 1) := by
  refine ⟨by rw [List.length_set, List.length_replicate], (zeros_rng hp m).set'' i (by omega) (by omega), fun t ht => ?_, by rw [unit_get hi, if_pos rfl], fun j _ hne => ?_, fun t h1 h2 => absurd h2 (by omega)⟩
  · rw [unit_get hi, if_neg (fun e => hc (by rw [e, List.getD, List.getElem?_eq_getElem (by rw [hr]; exact ht)]; exact List.getElem_mem _))]
  · rw [unit_get hi, if_neg (fun e => hne e.symm)]
theorem Unm.step (P : Pt p m n r C U R K) {i : Nat} (hc : i ∉ R) {k : Nat} (hk : k < r) {y : List Int} (h : Unm p m r C R i (k + 1) y) {s x : Int} (hs : (sm m fun j => (C.getD j []).getD k 0 * y.getD j 0) % p = s) (hx : (0 - s) % p = x) : Unm p m r C R i k (y.set (R.getD k 0) x) := by
  have hp := P.two
  have hx2 := mod_range (0 - s) hp
  rw [hx] at hx2
  have hkm := P.rlow k hk
  have hmem : R.getD k 0 ∈ R := by rw [List.getD, List.getElem?_eq_getElem (by rw [P.rr]; exact hk)]; exact List.getElem_mem _
  have hz : y.getD (R.getD k 0) 0 = 0 := h.own k (by omega)
  refine ⟨by rw [List.length_set]; exact h.len, h.rng.set'' _ hx2.1 hx2.2, fun t ht => ?_, ?_, fun j hj hne => ?_, fun t h1 h2 => ?_⟩
  · rw [set_get y _ _ x (by rw [h.len]; exact hkm), if_neg (fun e => P.r_one ht hk e.symm)]
    exact h.own t (by omega)
  · rw [set_get y _ _ x (by rw [h.len]; exact hkm), if_neg (fun e => hc (by rw [← e]; exact hmem))]
    exact h.at_
  · rw [set_get y _ _ x (by rw [h.len]; exact hkm), if_neg (fun e => hj (by rw [← e]; exact hmem))]
    exact h.off j hj hne
  · rw [sm_set (fun j => (C.getD j []).getD t 0) h.len hkm, hz, Int.sub_zero]
    rcases Nat.lt_or_ge k t with c | c
    · rw [P.low k t hk c, Int.zero_mul, Int.add_zero]
      exact h.dot t c h2
    · obtain rfl : t = k := by omega
      rw [P.one t hk, Int.one_mul, ← hx, ← hs]
      exact mod_back (by omega) (by omega)
end
section
variable {xs : List Int}
theorem row_parts (ok : MatOk p m n xs) (hf : Fld p) {i j : Nat} (hi : i < m) (hj : j < n) : (rowOf n xs i).getD j 0 % p = (sm (takeL p m n xs).U.length fun t => (((takeL p m n xs).C.map (padL (takeL p m n xs).U.length)).getD i []).getD t 0 * ((takeL p m n xs).U.getD t []).getD j 0) % p := by
  have h := takeL_ok (m := m) (n := n) (rightB_true ok.hp).1 hf ok.hx
  rw [h.full hi hj, map_getD (by rw [h.lc]; exact hi)]
  exact congrArg (· % p) (sm_congr fun t _ => by rw [padL_get])
/-- what the rows make of a vector: what the parts make of what the rests make -/
theorem app_parts {Q : Nat → List Int} {c u : Nat → Nat → Int} (h : ∀ i j, i < m → j < n → (Q i).getD j 0 % p = (sm r fun t => c i t * u t j) % p) (x : Nat → Int) {i : Nat} (hi : i < m) : appF n Q x i % p = (sm r fun t => c i t * (sm n fun j => u t j * x j)) % p := by
  have e1 : appF n Q x i % p = (sm n fun j => (sm r fun t => c i t * u t j) * x j) % p := sm_mod fun j hj => by rw [← mm_l, h i j hi hj, mm_l]
  rw [e1]
  refine congrArg (· % p) ?_
  rw [sm_congr (g := fun j => sm r fun t => c i t * (u t j * x j)) fun j _ => by
    rw [← sm_mul_r]
    exact sm_congr fun t _ => by rw [Int.mul_assoc], sm_comm]
  exact sm_congr fun t _ => sm_mul _ _ _
theorem lef_parts {Q : Nat → List Int} {c u : Nat → Nat → Int} (h : ∀ i j, i < m → j < n → (Q i).getD j 0 % p = (sm r fun t => c i t * u t j) % p) (y : Nat → Int) {j : Nat} (hj : j < n) : lefF m Q y j % p = (sm r fun t => (sm m fun i => c i t * y i) * u t j) % p := by
  have e1 : lefF m Q y j % p = (sm m fun i => y i * sm r fun t => c i t * u t j) % p := sm_mod fun i hi => by rw [← mm_r, h i j hi hj, mm_r]
  rw [e1]
  refine congrArg (· % p) ?_
  rw [sm_congr (g := fun i => sm r fun t => c i t * y i * u t j) fun i _ => by
    rw [← sm_mul]
    exact sm_congr fun t _ => by grind, sm_comm]
  exact sm_congr fun t _ => sm_mul_r _ _ _
variable {C U : List (List Int)} {R K : List Nat}
theorem isX_of (ok : MatOk p m n xs) (hf : Fld p) {b made x : List Int} (hb : b.length = m) (hr : Rng p b)
    (hm : ∀ i, i < m → (sm (takeL p m n xs).U.length fun t => (((takeL p m n xs).C.map (padL (takeL p m n xs).U.length)).getD i []).getD t 0 * made.getD t 0) % p = b.getD i 0)
    (h : Bck p n (takeL p m n xs).U.length (takeL p m n xs).U (takeL p m n xs).cols made (List.replicate n 0) 0 x) : IsX p m n xs b x := by
  have hp := (rightB_true ok.hp).1
  refine ⟨h.len, h.rng, times_eq hp hb hr fun i hi => ?_, fun j _ hc => by rw [h.off j hc, replicate_get]⟩
  have hb2 := hr.getD hp i
  rw [app_parts (fun i j hi hj => row_parts ok hf hi hj) (atV x) hi]
  have e : (sm (takeL p m n xs).U.length fun t => (((takeL p m n xs).C.map (padL (takeL p m n xs).U.length)).getD i []).getD t 0 * (sm n fun j => ((takeL p m n xs).U.getD t []).getD j 0 * atV x j)) % p = (sm (takeL p m n xs).U.length fun t => (((takeL p m n xs).C.map (padL (takeL p m n xs).U.length)).getD i []).getD t 0 * made.getD t 0) % p :=
    sm_mod fun t ht => by
      have := h.dot t (Nat.zero_le _) ht
      rw [← mm_r, show (sm n fun j => ((takeL p m n xs).U.getD t []).getD j 0 * atV x j) % p = made.getD t 0 from this]
  rw [e, hm i hi]
  exact (mod_small hb2.1 hb2.2).symm
/-- where the rows that count find something that isn't right, nothing is -/
theorem isX_not (ok : MatOk p m n xs) (hf : Fld p) {b made : List Int} 
    (h : Fwd p (takeL p m n xs).U.length ((takeL p m n xs).C.map (padL (takeL p m n xs).U.length)) (takeL p m n xs).rows b (takeL p m n xs).U.length made)
    {i : Nat} (hi : i < m) (hne : (sm (takeL p m n xs).U.length fun t => (((takeL p m n xs).C.map (padL (takeL p m n xs).U.length)).getD i []).getD t 0 * made.getD t 0) % p ≠ b.getD i 0) : ¬ ∃ x, IsX p m n xs b x := fun ⟨x, hx⟩ => by
  have hp := (rightB_true ok.hp).1
  have P := take_pt ok hf
  obtain ⟨z, hz⟩ : ∃ z : Nat → Int, (fun t => sm n fun j => ((takeL p m n xs).U.getD t []).getD j 0 * atV x j) = z := ⟨_, rfl⟩
  have key : ∀ i, i < m → (sm (takeL p m n xs).U.length fun t => (((takeL p m n xs).C.map (padL (takeL p m n xs).U.length)).getD i []).getD t 0 * z t) % p = b.getD i 0 := fun i hi => by
    have h1 := times_get (p := p) (n := n) (xs := xs) (x := x) hi
    rw [hx.sol, app_parts (fun i j hi hj => row_parts ok hf hi hj) (atV x) hi] at h1
    rw [h1, ← hz]
  have hsame : ∀ t, t < (takeL p m n xs).U.length → made.getD t 0 % p = z t % p := by
    intro t
    induction t using Nat.strongRecOn with
    | ind t ih =>
      intro ht
      have h1 := h.dot t ht
      have h2 := key _ (P.rlow t ht)
      rw [← h2, mz_sub, sm_dif] at h1
      have e : (sm (takeL p m n xs).U.length fun s => (((takeL p m n xs).C.map (padL (takeL p m n xs).U.length)).getD ((takeL p m n xs).rows.getD t 0) []).getD s 0 * made.getD s 0 - (((takeL p m n xs).C.map (padL (takeL p m n xs).U.length)).getD ((takeL p m n xs).rows.getD t 0) []).getD s 0 * z s) % p = (sm (takeL p m n xs).U.length fun s => if s = t then made.getD s 0 - z s else 0) % p := sm_mod fun s hs => by
        rcases Nat.lt_trichotomy s t with c | c | c
        · rw [if_neg (by omega), ← Int.mul_sub, mz_mul (mz_sub.1 (ih s c hs))]; simp
        · subst c
          rw [if_pos rfl, P.one s ht, Int.one_mul, Int.one_mul]
        · rw [if_neg (by omega), P.low t s ht c]; simp
      rw [e, sm_single (fun s => made.getD s 0 - z s) ht] at h1
      exact mz_sub.2 h1
  apply hne
  rw [← key i hi]
  exact sm_mod fun t ht => by rw [← mm_r, hsame t ht, mm_r]
theorem isK_of (ok : MatOk p m n xs) (hf : Fld p) {x : List Int} (hr : freeC n (takeL p m n xs).cols < n)
    (h : Bck p n (takeL p m n xs).U.length (takeL p m n xs).U (takeL p m n xs).cols (List.replicate (takeL p m n xs).U.length 0) ((List.replicate n 0).set (freeC n (takeL p m n xs).cols) 1) 0 x) : IsK p m n xs x := by
  have hp := (rightB_true ok.hp).1
  refine ⟨h.len, h.rng, times_eq hp List.length_replicate (zeros_rng hp m) fun i hi => ?_, ?_, fun j _ hc hne => ?_⟩
  · rw [app_parts (fun i j hi hj => row_parts ok hf hi hj) (atV x) hi]
    unfold atV
    rw [replicate_get]
    have : (sm (takeL p m n xs).U.length fun t => (((takeL p m n xs).C.map (padL (takeL p m n xs).U.length)).getD i []).getD t 0 * (sm n fun j => ((takeL p m n xs).U.getD t []).getD j 0 * x.getD j 0)) % p = 0 := sm_mz fun t ht => mz_mul (by rw [h.dot t (Nat.zero_le _) ht, replicate_get]) _
    rw [this]; simp
  · rw [h.off _ (freeC_not hr), unit_get hr, if_pos rfl]
  · rw [h.off j hc, unit_get hr, if_neg (fun e => hne e.symm)]
theorem isY_of (ok : MatOk p m n xs) (hf : Fld p) {i : Nat} {y : List Int}
    (h : Unm p m (takeL p m n xs).U.length ((takeL p m n xs).C.map (padL (takeL p m n xs).U.length)) (takeL p m n xs).rows i 0 y) : IsY p m n xs i y := by
  refine ⟨h.len, h.rng, left_zero fun k hk => ?_, h.at_, fun k _ hc hne => h.off k hc hne⟩
  rw [lef_parts (fun i j hi hj => row_parts ok hf hi hj) (atV y) hk]
  exact sm_mz fun t ht => mz_mul' (h.dot t (Nat.zero_le _) ht) _
end
end Go.Proofs.Ytjdbkbbhjiemdaa
