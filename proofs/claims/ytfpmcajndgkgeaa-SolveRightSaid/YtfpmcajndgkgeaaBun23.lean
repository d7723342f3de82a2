/- What the texts CramM, CramS show, in one text. -/
import Derived.Test.YtfpmcajndgkgeaaBun15
/- Cramer's rule: a determinant in whose place a column stands what its matrix makes of numbers (in plain Lean; nothing of a program). -/
namespace Go.Proofs.Ytfpmcajndgkgeaa
variable {p : Int} {m n r : Nat} {xs : List Int}

/-- the columns, as rows -/
def colsF (n : Nat) (A : Nat → Nat → Int) : List RowF := (List.range n).map fun j i => A i j
theorem colsF_len (n : Nat) (A : Nat → Nat → Int) : (colsF n A).length = n := by simp [colsF]
theorem colsF_get {A : Nat → Nat → Int} {j : Nat} (hj : j < n) : rwF (colsF n A) j = fun i => A i j := by
  simp [rwF, colsF, List.getD, hj]
theorem colsF_det (n : Nat) (A : Nat → Nat → Int) : detT n (colsF n A) = detF n A :=
  detF_congr n fun j i _ hi => by rw [colsF_get hi]
theorem colsF_split {k : Nat} (hk : k < n) (A : Nat → Nat → Int) : colsF n A = (colsF n A).take k ++ (fun i => A i k) :: (colsF n A).drop (k + 1) := by
  rw [← colsF_get (A := A) hk, ← rwF_drop (by rw [colsF_len]; exact hk), List.take_append_drop]
theorem colsF_other {k : Nat} {A B : Nat → Nat → Int} (h : ∀ i j, j < n → j ≠ k → B i j = A i j) : (colsF n B).take k = (colsF n A).take k ∧ (colsF n B).drop (k + 1) = (colsF n A).drop (k + 1) := by
  constructor
  · refine List.ext_getElem? fun l => ?_
    simp only [List.getElem?_take, colsF, List.getElem?_map]
    by_cases hl : l < k
    · rw [if_pos hl, if_pos hl]
      by_cases hn : l < n
      · simp [hn, h _ l hn (by omega)]
      · simp [hn]
    · rw [if_neg hl, if_neg hl]
  · refine List.ext_getElem? fun l => ?_
    simp only [List.getElem?_drop, colsF, List.getElem?_map]
    by_cases hn : k + 1 + l < n
    · simp [hn, h _ _ hn (by omega)]
    · simp [hn]
/-- a column's place taken by another one -/
def putC (A : Nat → Nat → Int) (k : Nat) (b : Nat → Int) : Nat → Nat → Int := fun i j => if j = k then b i else A i j
theorem cramer_col {k : Nat} (hk : k < n) (A : Nat → Nat → Int) (b x : Nat → Int) (h : ∀ i, i < n → b i % p = (sm n fun l => A i l * x l) % p) : detF n (putC A k b) % p = x k * detF n A % p := by
  have ha := detT_alt n
  obtain ⟨e1, e2⟩ := colsF_other (n := n) (k := k) (A := A) (B := putC A k b) fun i j _ hne => if_neg hne
  have hl : ∀ y : RowF, ((colsF n A).take k ++ y :: (colsF n A).drop (k + 1)).length = n := fun y => by simp [colsF_len]; omega
  have hB : detF n (putC A k b) = detT n ((colsF n A).take k ++ b :: (colsF n A).drop (k + 1)) := by
    rw [← colsF_det, colsF_split hk (putC A k b), e1, e2]
    congr 3
    funext i
    exact if_pos rfl
  rw [hB, ha.mod (p := p) _ _ (fun i => 0 + sm n fun l => x l * A i l) _ (hl _) fun i hi => by
    rw [h i hi, Int.zero_add]
    exact congrArg (· % p) (sm_congr fun l _ => Int.mul_comm _ _)]
  have hs := ha.sum _ (fun _ => 0) _ (hl _) x (fun l i => A i l) n
  rw [hs, ha.zero (hl _), Int.zero_add, sm_congr (g := fun l => if l = k then x k * detF n A else 0) fun l hl2 => ?_, sm_single (fun _ => x k * detF n A) hk]
  by_cases e : l = k
  · subst e
    rw [if_pos rfl, ← colsF_split hk A, colsF_det]
  · rw [if_neg e]
    have hz : detT n ((colsF n A).take k ++ (fun i => A i l) :: (colsF n A).drop (k + 1)) = 0 := by
      rcases Nat.lt_or_gt_of_ne e with c | c
      · refine ha.memL ?_ (hl _)
        have e3 : (fun i => A i l) = rwF ((colsF n A).take k) l := by
          rw [← colsF_get (A := A) hl2]; simp [rwF, List.getD, c]
        rw [e3]; exact rwF_mem (by simp [colsF_len]; omega)
      · refine ha.memR ?_ (hl _)
        have e3 : (fun i => A i l) = rwF ((colsF n A).drop (k + 1)) (l - (k + 1)) := by
          rw [← colsF_get (A := A) hl2]; simp [rwF, List.getD, show k + 1 + (l - (k + 1)) = l by omega]
        rw [e3]; exact rwF_mem (by simp [colsF_len]; omega)
    rw [hz, Int.mul_zero]
/-- the numbers that a square matrix takes to b, by determinants -/
noncomputable def crL (p : Int) (r : Nat) (ns b : List Int) : List Int := tab r fun k => (detF r (putC (atF r ns) k fun i => b.getD i 0) % p) * minv p (detF r (atF r ns) % p) % p
theorem crL_len (ns b : List Int) : (crL p r ns b).length = r := tab_len _ _
theorem crL_rng (hp : 2 ≤ p) (ns b : List Int) : Rng p (crL p r ns b) := tab_rng fun _ _ => mod_range _ hp
theorem crL_get (hp : 2 ≤ p) (hf : Fld p) {ns b : List Int} {x : Nat → Int} (hd : detF r (atF r ns) % p ≠ 0) (h : ∀ i, i < r → b.getD i 0 % p = (sm r fun l => atF r ns i l * x l) % p) {k : Nat} (hk : k < r) : (crL p r ns b).getD k 0 = x k % p := by
  unfold crL
  rw [tab_get _ hk, cramer_col hk (atF r ns) (fun i => b.getD i 0) x h]
  obtain ⟨D, hD⟩ : ∃ D, detF r (atF r ns) % p = D := ⟨_, rfl⟩
  have hr := mod_range (detF r (atF r ns)) hp
  rw [hD] at hd hr ⊢
  have hinv := unit_inv p D hp hr.1 (hf D (by omega) hr.2)
  have h1 : detF r (atF r ns) * minv p D % p = 1 := by rw [← mm_l, hD]; exact hinv
  rw [mm_l, Int.mul_assoc, ← mm_r, h1, Int.mul_one]
end Go.Proofs.Ytfpmcajndgkgeaa
/- Solutions, kernels, and rows that are made of others, by determinants of the own rows and columns (in plain Lean; nothing of a program). -/
namespace Go.Proofs.Ytfpmcajndgkgeaa
variable {p : Int} {m n r : Nat} {xs : List Int}

/-- a sum over what isn't 0 -/
theorem sum_own {cols : List Nat} (hi : ∀ i k, i < cols.length → k < cols.length → cols.getD i 0 = cols.getD k 0 → i = k) (hb : ∀ c ∈ cols, c < n) {f : Nat → Int} (hz : ∀ j, j < n → j ∉ cols → f j = 0) : sm n f = sm cols.length fun l => f (cols.getD l 0) := by
  have e : sm n f = sm n fun j => 1 * putV cols (fun l => f (cols.getD l 0)) j := sm_congr fun j hj => by
    rw [Int.one_mul]
    by_cases hc : j ∈ cols
    · obtain ⟨l, hl, e⟩ := List.getElem_of_mem hc
      have e' : cols.getD l 0 = j := by rw [List.getD, List.getElem?_eq_getElem hl]; exact e
      have := putV_at (c := fun l => f (cols.getD l 0)) hl hi
      simp only [e'] at this
      exact this.symm
    · rw [putV_off hc, hz j hj hc]
  rw [e, putV_sum hb]
  exact sm_congr fun l _ => Int.one_mul _
theorem sum_own1 {cols : List Nat} (hi : ∀ i k, i < cols.length → k < cols.length → cols.getD i 0 = cols.getD k 0 → i = k) (hb : ∀ c ∈ cols, c < n) {f : Nat → Int} {g : Nat} (hg : g < n) (hgc : g ∉ cols) (hz : ∀ j, j < n → j ∉ cols → j ≠ g → f j = 0) : sm n f = f g + sm cols.length fun l => f (cols.getD l 0) := by
  have e : sm n f = sm n fun j => (if j = g then f j else 0) + (if j = g then 0 else f j) := sm_congr fun j _ => by by_cases e : j = g <;> simp [e]
  rw [e, sm_add, sm_single f hg, sum_own (f := fun j => if j = g then 0 else f j) hi hb fun j hj hc => by
    by_cases e : j = g
    · rw [if_pos e]
    · rw [if_neg e]; exact hz j hj hc e]
  congr 1
  refine sm_congr fun l hl => if_neg fun e => hgc ?_
  rw [← e, List.getD, List.getElem?_eq_getElem hl]
  exact List.getElem_mem hl
/-- numbers laid at places, one behind the other -/
def setsL (base : List Int) (at' : List Nat) (z : List Int) : Nat → List Int
  | 0 => base
  | k + 1 => (setsL base at' z k).set (at'.getD k 0) (z.getD k 0)
theorem setsL_len (base : List Int) (at' : List Nat) (z : List Int) : ∀ k, (setsL base at' z k).length = base.length
  | 0 => rfl
  | k + 1 => by rw [setsL, List.length_set, setsL_len base at' z k]
theorem setsL_rng {base : List Int} {at' : List Nat} {z : List Int} (h0 : Rng p base) (hz : ∀ k, 0 ≤ z.getD k 0 ∧ z.getD k 0 < p) : ∀ k, Rng p (setsL base at' z k)
  | 0 => h0
  | k + 1 => fun x hx => by
    rcases List.mem_or_eq_of_mem_set hx with h | h
    · exact setsL_rng h0 hz k x h
    · rw [h]; exact hz k
theorem set_getD (l : List Int) (i j : Nat) (x : Int) (hi : i < l.length) : (l.set i x).getD j 0 = if i = j then x else l.getD j 0 := by
  simp only [List.getD, List.getElem?_set]
  by_cases e : i = j
  · subst e; simp [hi]
  · simp [e]
theorem setsL_off {base : List Int} {at' : List Nat} {z : List Int} {j : Nat} : ∀ k, k ≤ at'.length → (∀ l, l < k → at'.getD l 0 ≠ j) → (setsL base at' z k).getD j 0 = base.getD j 0
  | 0, _, _ => rfl
  | k + 1, hk, h => by
    rw [setsL]
    by_cases hb : at'.getD k 0 < (setsL base at' z k).length
    · rw [set_getD _ _ _ _ hb, if_neg (h k (by omega))]
      exact setsL_off k (by omega) fun l hl => h l (by omega)
    · rw [List.set_eq_of_length_le (by omega)]
      exact setsL_off k (by omega) fun l hl => h l (by omega)
theorem setsL_on {base : List Int} {at' : List Nat} {z : List Int} (hi : ∀ i k, i < at'.length → k < at'.length → at'.getD i 0 = at'.getD k 0 → i = k) (hb : ∀ c ∈ at', c < base.length) {l : Nat} : ∀ k, k ≤ at'.length → l < k → (setsL base at' z k).getD (at'.getD l 0) 0 = z.getD l 0
  | 0, _, h => absurd h (Nat.not_lt_zero _)
  | k + 1, hk, hl => by
    rw [setsL, set_getD _ _ _ _ (by rw [setsL_len]; exact hb _ (by rw [List.getD, List.getElem?_eq_getElem (by omega)]; exact List.getElem_mem _))]
    by_cases e : k = l
    · subst e; rw [if_pos rfl]
    · rw [if_neg fun h => e (hi _ _ (by omega) (by omega) h)]
      exact setsL_on hi hb k (by omega) (by omega)
theorem not_mem_getD {l : List Nat} {j : Nat} (h : j ∉ l) {k : Nat} (hk : k < l.length) : l.getD k 0 ≠ j := fun e => h (by rw [← e, List.getD, List.getElem?_eq_getElem hk]; exact List.getElem_mem hk)

theorem row_at {i j : Nat} (hj : j < n) : (rowOf n xs i).getD j 0 = xs.getD (i * n + j) 0 := tab_get _ hj
/-- the own rows and columns, as they were found -/
noncomputable def coreL (p : Int) (m n : Nat) (xs : List Int) : List Int :=
  grid (takeL p m n xs).U.length (takeL p m n xs).U.length fun i l => xs.getD ((takeL p m n xs).rows.getD i 0 * n + (takeL p m n xs).cols.getD l 0) 0
theorem coreL_len : (coreL p m n xs).length = (takeL p m n xs).U.length * (takeL p m n xs).U.length := grid_len _ _ _
theorem coreL_rng (hp : 2 ≤ p) (hx : Rng p xs) : Rng p (coreL p m n xs) := tab_rng fun _ _ => hx.getD hp _
theorem coreL_at {i l : Nat} (hi : i < (takeL p m n xs).U.length) (hl : l < (takeL p m n xs).U.length) : atF (takeL p m n xs).U.length (coreL p m n xs) i l = xs.getD ((takeL p m n xs).rows.getD i 0 * n + (takeL p m n xs).cols.getD l 0) 0 := by
  unfold atF coreL
  exact grid_get _ hi hl
theorem core_det (hp : 2 ≤ p) (hf : Fld p) (hx : Rng p xs) : detF (takeL p m n xs).U.length (atF (takeL p m n xs).U.length (coreL p m n xs)) % p ≠ 0 := by
  have h := takeL_ok (m := m) (n := n) hp hf hx
  obtain ⟨r, hr⟩ : ∃ r, (takeL p m n xs).U.length = r := ⟨_, rfl⟩
  have hy := coreL_rng (m := m) (n := n) hp hx
  have ho := takeL_ok (m := r) (n := r) hp hf hy
  have hi := hf.has hp
  have hat := fun {i l : Nat} => coreL_at (p := p) (m := m) (n := n) (xs := xs) (i := i) (l := l)
  rw [hr] at hat ⊢
  intro h0
  apply (det_rank hp hf hy).1 h0
  apply Nat.le_antisymm ho.le
  have hm := h.core hi
  rw [hr] at hm
  refine hm.le hi fun k hk => ((ho.bas hi).gen k hk).congr fun j hj => ?_
  have e1 : lf (rowOf r (coreL p m n xs) k) j = atF r (coreL p m n xs) k j := lf_row hj
  rw [e1, hat hk hj]
  refine congrArg (· % p) ?_
  exact tab_get _ (h.row j (by omega)).2.2.1

variable {b x y : List Int}
/-- the right side's own numbers -/
noncomputable def ownB (p : Int) (m n : Nat) (xs b : List Int) : List Int := tab (takeL p m n xs).U.length fun k => b.getD ((takeL p m n xs).rows.getD k 0) 0
/-- the solution, by determinants -/
noncomputable def solX (p : Int) (m n : Nat) (xs b : List Int) : List Int :=
  setsL (List.replicate n 0) (takeL p m n xs).cols (crL p (takeL p m n xs).U.length (coreL p m n xs) (ownB p m n xs b)) (takeL p m n xs).U.length
theorem crL_getr (hp : 2 ≤ p) (ns b : List Int) (k : Nat) : 0 ≤ (crL p r ns b).getD k 0 ∧ (crL p r ns b).getD k 0 < p := (crL_rng hp ns b).getD hp k
theorem solX_len : (solX p m n xs b).length = n := by unfold solX; rw [setsL_len, List.length_replicate]
theorem solX_rng (hp : 2 ≤ p) : Rng p (solX p m n xs b) := setsL_rng (zeros_rng hp n) (crL_getr hp _ _) _
theorem solX_off (h : ElOk p n (rowOf n xs) m (takeL p m n xs)) {j : Nat} (hc : j ∉ (takeL p m n xs).cols) : (solX p m n xs b).getD j 0 = 0 := by
  unfold solX
  rw [setsL_off _ (by rw [h.lk]; exact Nat.le_refl _) fun l hl => not_mem_getD hc (by rw [h.lk]; exact hl), replicate_get]
theorem ElOk.cols_one {R : Nat → List Int} {st : ElE} (h : ElOk p n R m st) {i k : Nat} (hi : i < st.cols.length) (hk : k < st.cols.length) (e : st.cols.getD i 0 = st.cols.getD k 0) : i = k :=
  h.ech.inj (by rw [← h.lk]; exact hi) (by rw [← h.lk]; exact hk) e
theorem solX_eq (ok : MatOk p m n xs) (hf : Fld p) (hx : IsX p m n xs b x) : solX p m n xs b = x := by
  have hp := (rightB_true ok.hp).1
  have h := takeL_ok (m := m) (n := n) hp hf ok.hx
  refine vec_ext hp solX_len hx.len (solX_rng hp) hx.rng fun j hj => congrArg (· % p) ?_
  show (solX p m n xs b).getD j 0 = x.getD j 0
  by_cases hc : j ∈ (takeL p m n xs).cols
  · obtain ⟨l, hl, e⟩ := List.getElem_of_mem hc
    have e' : (takeL p m n xs).cols.getD l 0 = j := by rw [List.getD, List.getElem?_eq_getElem hl]; exact e
    have hl' : l < (takeL p m n xs).U.length := by rw [← h.lk]; exact hl
    unfold solX
    rw [← e', setsL_on (fun i k => h.cols_one) (fun c hc => by rw [List.length_replicate]; exact h.cols_lt hc) _ (by rw [h.lk]; exact Nat.le_refl _) hl']
    rw [crL_get hp hf (x := fun l => x.getD ((takeL p m n xs).cols.getD l 0) 0) (core_det hp hf ok.hx) (fun i hi => ?_) hl']
    · exact mod_small (hx.rng.getD hp _).1 (hx.rng.getD hp _).2
    · have hlow := h.low i (by rw [h.lr]; exact hi)
      unfold ownB
      rw [tab_get _ hi, ← hx.sol, times_get hlow, Int.emod_emod]
      unfold appF
      rw [sum_own (fun i k => h.cols_one) (fun c hc => h.cols_lt hc) (f := fun j => (rowOf n xs ((takeL p m n xs).rows.getD i 0)).getD j 0 * atV x j) fun j hj hc => by
        unfold atV; rw [hx.off j hj hc, Int.mul_zero], h.lk]
      refine congrArg (· % p) (sm_congr fun l hl => ?_)
      rw [coreL_at hi hl]
      congr 1
      exact tab_get _ (h.row l hl).2.2.1
  · rw [solX_off h hc, hx.off j hj hc]
theorem solX_is (ok : MatOk p m n xs) (hf : Fld p) (hs : timesL p m n xs (solX p m n xs b) = b) : IsX p m n xs b (solX p m n xs b) :=
  have hp := (rightB_true ok.hp).1
  ⟨solX_len, solX_rng hp, hs, fun _ _ hc => solX_off (takeL_ok hp hf ok.hx) hc⟩

/-- the kernel's, by determinants -/
noncomputable def ownK (p : Int) (m n : Nat) (xs : List Int) : List Int := tab (takeL p m n xs).U.length fun k => (0 - xs.getD ((takeL p m n xs).rows.getD k 0 * n + freeC n (takeL p m n xs).cols) 0) % p
noncomputable def solK (p : Int) (m n : Nat) (xs : List Int) : List Int :=
  setsL ((List.replicate n 0).set (freeC n (takeL p m n xs).cols) 1) (takeL p m n xs).cols (crL p (takeL p m n xs).U.length (coreL p m n xs) (ownK p m n xs)) (takeL p m n xs).U.length
theorem solK_len : (solK p m n xs).length = n := by unfold solK; rw [setsL_len, List.length_set, List.length_replicate]
theorem set_rng {l : List Int} {i : Nat} (h : Rng p l) (hp : 2 ≤ p) : Rng p (l.set i 1) := fun x hx => by
  rcases List.mem_or_eq_of_mem_set hx with h1 | h1
  · exact h x h1
  · rw [h1]; omega
theorem solK_rng (hp : 2 ≤ p) : Rng p (solK p m n xs) := setsL_rng (set_rng (zeros_rng hp n) hp) (crL_getr hp _ _) _
theorem solK_eq (ok : MatOk p m n xs) (hf : Fld p) (hx : IsK p m n xs x) (hfr : freeC n (takeL p m n xs).cols < n) : solK p m n xs = x := by
  have hp := (rightB_true ok.hp).1
  have h := takeL_ok (m := m) (n := n) hp hf ok.hx
  have hfc := freeC_not hfr
  refine vec_ext hp solK_len hx.len (solK_rng hp) hx.rng fun j hj => congrArg (· % p) ?_
  show (solK p m n xs).getD j 0 = x.getD j 0
  by_cases hc : j ∈ (takeL p m n xs).cols
  · obtain ⟨l, hl, e⟩ := List.getElem_of_mem hc
    have e' : (takeL p m n xs).cols.getD l 0 = j := by rw [List.getD, List.getElem?_eq_getElem hl]; exact e
    have hl' : l < (takeL p m n xs).U.length := by rw [← h.lk]; exact hl
    unfold solK
    rw [← e', setsL_on (fun i k => h.cols_one) (fun c hc => by rw [List.length_set, List.length_replicate]; exact h.cols_lt hc) _ (by rw [h.lk]; exact Nat.le_refl _) hl']
    rw [crL_get hp hf (x := fun l => x.getD ((takeL p m n xs).cols.getD l 0) 0) (core_det hp hf ok.hx) (fun i hi => ?_) hl']
    · exact mod_small (hx.rng.getD hp _).1 (hx.rng.getD hp _).2
    · have hlow := h.low i (by rw [h.lr]; exact hi)
      unfold ownK
      rw [tab_get _ hi, Int.emod_emod]
      have ht := times_get (p := p) (n := n) (xs := xs) (x := x) hlow
      rw [hx.sol, replicate_get] at ht
      unfold appF at ht
      rw [sum_own1 (fun i k => h.cols_one) (fun c hc => h.cols_lt hc) (f := fun j => (rowOf n xs ((takeL p m n xs).rows.getD i 0)).getD j 0 * atV x j) hfr hfc fun j hj hc hne => by
        unfold atV; rw [hx.off j hj hc hne, Int.mul_zero], h.lk] at ht
      simp only [atV, hx.free, Int.mul_one] at ht
      rw [show (rowOf n xs ((takeL p m n xs).rows.getD i 0)).getD (freeC n (takeL p m n xs).cols) 0 = xs.getD ((takeL p m n xs).rows.getD i 0 * n + freeC n (takeL p m n xs).cols) 0 from tab_get _ hfr] at ht
      rw [sm_congr (g := fun l => (rowOf n xs ((takeL p m n xs).rows.getD i 0)).getD ((takeL p m n xs).cols.getD l 0) 0 * x.getD ((takeL p m n xs).cols.getD l 0) 0) fun l hl => by
        rw [coreL_at hi hl]
        congr 1
        exact (row_at (h.row l hl).2.2.1).symm]
      obtain ⟨S, hS⟩ : ∃ S, (sm (takeL p m n xs).U.length fun l => (rowOf n xs ((takeL p m n xs).rows.getD i 0)).getD ((takeL p m n xs).cols.getD l 0) 0 * x.getD ((takeL p m n xs).cols.getD l 0) 0) = S := ⟨_, rfl⟩
      rw [hS] at ht ⊢
      rw [mz_sub]
      obtain ⟨a, ha⟩ : ∃ a, xs.getD ((takeL p m n xs).rows.getD i 0 * n + freeC n (takeL p m n xs).cols) 0 = a := ⟨_, rfl⟩
      rw [ha] at ht ⊢
      rw [show 0 - a - S = -(a + S) by omega]
      exact mz_neg ht.symm
  · unfold solK
    rw [setsL_off _ (by rw [h.lk]; exact Nat.le_refl _) fun l hl => not_mem_getD hc (by rw [h.lk]; exact hl), set_getD _ _ _ _ (by rw [List.length_replicate]; exact hfr), replicate_get]
    by_cases e : freeC n (takeL p m n xs).cols = j
    · rw [if_pos e, ← e, hx.free]
    · rw [if_neg e, hx.off j hj hc fun e2 => e e2.symm]

/-- how a row is made of others, by determinants -/
noncomputable def ownY (p : Int) (m n : Nat) (xs : List Int) (i : Nat) : List Int := tab (takeL p m n xs).U.length fun k => (0 - xs.getD (i * n + (takeL p m n xs).cols.getD k 0) 0) % p
noncomputable def solY (p : Int) (m n : Nat) (xs : List Int) (i : Nat) : List Int :=
  setsL ((List.replicate m 0).set i 1) (takeL p m n xs).rows (crL p (takeL p m n xs).U.length (turnL (takeL p m n xs).U.length (takeL p m n xs).U.length (coreL p m n xs)) (ownY p m n xs i)) (takeL p m n xs).U.length
theorem solY_len {i : Nat} : (solY p m n xs i).length = m := by unfold solY; rw [setsL_len, List.length_set, List.length_replicate]
theorem solY_rng {i : Nat} (hp : 2 ≤ p) : Rng p (solY p m n xs i) := setsL_rng (set_rng (zeros_rng hp m) hp) (crL_getr hp _ _) _
theorem solY_eq (ok : MatOk p m n xs) (hf : Fld p) {i : Nat} (hi : i < m) (hc : i ∉ (takeL p m n xs).rows) (hy : IsY p m n xs i y) : solY p m n xs i = y := by
  have hp := (rightB_true ok.hp).1
  have h := takeL_ok (m := m) (n := n) hp hf ok.hx
  refine vec_ext hp solY_len hy.len (solY_rng hp) hy.rng fun j hj => congrArg (· % p) ?_
  show (solY p m n xs i).getD j 0 = y.getD j 0
  by_cases hjc : j ∈ (takeL p m n xs).rows
  · obtain ⟨l, hl, e⟩ := List.getElem_of_mem hjc
    have e' : (takeL p m n xs).rows.getD l 0 = j := by rw [List.getD, List.getElem?_eq_getElem hl]; exact e
    have hl' : l < (takeL p m n xs).U.length := by rw [← h.lr]; exact hl
    unfold solY
    rw [← e', setsL_on (fun i k => h.rows_one) (fun c hc => by rw [List.length_set, List.length_replicate]; exact h.rows_lt hc) _ (by rw [h.lr]; exact Nat.le_refl _) hl']
    rw [crL_get hp hf (x := fun l => y.getD ((takeL p m n xs).rows.getD l 0) 0) (by rw [det_turned hp hf (coreL_rng hp ok.hx)]; exact core_det hp hf ok.hx) (fun k hk => ?_) hl']
    · exact mod_small (hy.rng.getD hp _).1 (hy.rng.getD hp _).2
    · have hcol := (h.row k hk).2.2.1
      unfold ownY
      rw [tab_get _ hk, Int.emod_emod]
      have ht := left_get (p := p) (m := m) (xs := xs) (y := y) hcol
      rw [hy.sol, replicate_get] at ht
      unfold lefF at ht
      rw [sum_own1 (fun i k => h.rows_one) (fun c hc => h.rows_lt hc) (f := fun i => atV y i * (rowOf n xs i).getD ((takeL p m n xs).cols.getD k 0) 0) hi hc fun j hj hc hne => by
        unfold atV; rw [hy.off j hj hc hne, Int.zero_mul], h.lr] at ht
      simp only [atV, hy.own, Int.one_mul] at ht
      rw [show (rowOf n xs i).getD ((takeL p m n xs).cols.getD k 0) 0 = xs.getD (i * n + (takeL p m n xs).cols.getD k 0) 0 from tab_get _ hcol] at ht
      rw [sm_congr (g := fun l => y.getD ((takeL p m n xs).rows.getD l 0) 0 * (rowOf n xs ((takeL p m n xs).rows.getD l 0)).getD ((takeL p m n xs).cols.getD k 0) 0) fun l hl => by
        rw [Int.mul_comm, show atF (takeL p m n xs).U.length (turnL (takeL p m n xs).U.length (takeL p m n xs).U.length (coreL p m n xs)) k l = atF (takeL p m n xs).U.length (coreL p m n xs) l k from by
          show (turnL _ _ _).getD (k * _ + l) 0 = _
          rw [turnL, grid_get _ hk hl]; rfl, coreL_at hl hk]
        congr 1
        exact (row_at hcol).symm]
      obtain ⟨S, hS⟩ : ∃ S, (sm (takeL p m n xs).U.length fun l => y.getD ((takeL p m n xs).rows.getD l 0) 0 * (rowOf n xs ((takeL p m n xs).rows.getD l 0)).getD ((takeL p m n xs).cols.getD k 0) 0) = S := ⟨_, rfl⟩
      rw [hS] at ht ⊢
      rw [mz_sub]
      obtain ⟨a, ha⟩ : ∃ a, xs.getD (i * n + (takeL p m n xs).cols.getD k 0) 0 = a := ⟨_, rfl⟩
      rw [ha] at ht ⊢
      rw [show 0 - a - S = -(a + S) by omega]
      exact mz_neg ht.symm
  · unfold solY
    rw [setsL_off _ (by rw [h.lr]; exact Nat.le_refl _) fun l hl => not_mem_getD hjc (by rw [h.lr]; exact hl), set_getD _ _ _ _ (by rw [List.length_replicate]; exact hi), replicate_get]
    by_cases e : i = j
    · rw [if_pos e, ← e, hy.own]
    · rw [if_neg e, hy.off j hj hjc fun e2 => e e2.symm]
end Go.Proofs.Ytfpmcajndgkgeaa
