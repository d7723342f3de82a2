/- What the texts CupP, RingM show, in one text. -/
import Derived.Test.YtdfkojbfgodegaaBun14
import Derived.Test.YtdfkojbfgodegaaBun07
/- Ranks of products, orders of rows, rows that are scaled or alike: over a field (in plain Lean; nothing of a program). -/
namespace Go.Proofs.Ytdfkojbfgodegaa
variable {p : Int} {n m : Nat} {R : Nat → List Int} {st : ElE}

theorem Comb.add {n r : Nat} {u : Nat → RowF} {v w : RowF} (h : Comb p n r u v) (k : Comb p n r u w) (a b : Int) : Comb p n r u fun j => a * v j + b * w j := by
  have := Comb.sum (p := p) (n := n) (r := r) (m := 2) (u := u) (w := fun i => if i = 0 then v else w) (fun i _ => by
    by_cases e : i = 0
    · simp only [if_pos e]; exact h
    · simp only [if_neg e]; exact k) fun i => if i = 0 then a else b
  refine this.congr fun j _ => ?_
  simp [sm]
theorem Comb.zero {n r : Nat} (u : Nat → RowF) : Comb p n r u fun _ => 0 := ⟨fun _ => 0, fun j _ => by rw [sm_zero fun k _ => by simp]⟩
/-- the columns that no rest has -/
def offE (k : Nat) (cols : List Nat) : List Nat := (List.range k).filter fun l => decide (l ∉ cols)
theorem offE_mem {k : Nat} {cols : List Nat} {l : Nat} : l ∈ offE k cols ↔ l < k ∧ l ∉ cols := by simp [offE]
theorem offE_len {k : Nat} {cols : List Nat} (hn : cols.Nodup) (hb : ∀ c ∈ cols, c < k) : (offE k cols).length + cols.length = k := by
  have h1 : ((List.range k).filter fun l => decide (l ∈ cols)).length = cols.length := by
    have hp : ((List.range k).filter fun l => decide (l ∈ cols)).Perm cols := by
      rw [List.perm_iff_count]
      intro a
      have hnr : ((List.range k).filter fun l => decide (l ∈ cols)).Nodup := List.Pairwise.filter _ List.nodup_range
      have c1 := List.nodup_iff_count.1 hnr a
      have c2 := List.nodup_iff_count.1 hn a
      have e : (0 < List.count a ((List.range k).filter fun l => decide (l ∈ cols))) ↔ 0 < List.count a cols := by
        rw [List.count_pos_iff, List.count_pos_iff]
        simp only [List.mem_filter, List.mem_range, decide_eq_true_eq]
        exact ⟨fun h => h.2, fun h => ⟨hb a h, h⟩⟩
      omega
    exact hp.length_eq
  have h2 : ∀ l : List Nat, (l.filter fun x => decide (x ∉ cols)).length + (l.filter fun x => decide (x ∈ cols)).length = l.length := by
    intro l
    induction l with
    | nil => rfl
    | cons a l ih =>
      rw [List.filter_cons, List.filter_cons]
      by_cases e : a ∈ cols
      · rw [if_neg (by simp [e]), if_pos (by simp [e])]; simp only [List.length_cons]; omega
      · rw [if_pos (by simp [e]), if_neg (by simp [e])]; simp only [List.length_cons]; omega
  have := h2 (List.range k)
  rw [h1, List.length_range] at this
  exact this
theorem ElOk.cols_nodup (h : ElOk p n R m st) : st.cols.Nodup := by
  unfold List.Nodup
  rw [List.pairwise_iff_getElem]
  intro i k hi hk hik e
  have e' : st.cols.getD i 0 = st.cols.getD k 0 := by simp only [List.getD, List.getElem?_eq_getElem hi, List.getElem?_eq_getElem hk, Option.getD_some]; exact e
  have := h.ech.inj (by have := h.lk; omega) (by have := h.lk; omega) e'
  omega
theorem ElOk.cols_lt (h : ElOk p n R m st) {c : Nat} (hc : c ∈ st.cols) : c < n := by
  obtain ⟨k, hk, rfl⟩ := List.getElem_of_mem hc
  have := (h.row k (by have := h.lk; omega)).2.2.1
  rwa [List.getD, List.getElem?_eq_getElem hk] at this
/-- a product's rank isn't less than both ranks, less what is between -/
theorem rank_sylvester (hp : HasInv p) {m k n rd rb : Nat} {A : Nat → List Int} {B uD uB : Nat → RowF} {sa : ElE} (ha : ElOk p k A m sa) (D : Bas p n m rd (mulF k (fun i => lf (A i)) B) uD) (E : Bas p n k rb B uB) : sa.U.length + rb ≤ rd + k := by
  have hlen := offE_len ha.cols_nodup fun c hc => ha.cols_lt hc
  have hlk := ha.lk
  have hba := ha.bas hp
  -- what spans all of B's rows
  let F : Nat → RowF := fun i => if i < rd then uD i else B ((offE k sa.cols).getD (i - rd) 0)
  have hF1 : ∀ v, Comb p n rd uD v → Comb p n (rd + (offE k sa.cols).length) F v := fun v hv => hv.trans fun i hi => by
    have : F i = uD i := if_pos hi
    rw [← this]; exact Comb.one F (by omega)
  have hF2 : ∀ l, l ∈ offE k sa.cols → Comb p n (rd + (offE k sa.cols).length) F (B l) := fun l hl => by
    obtain ⟨i, hi, e⟩ := List.getElem_of_mem hl
    have : F (rd + i) = B l := by
      show (if rd + i < rd then _ else B ((offE k sa.cols).getD (rd + i - rd) 0)) = _
      rw [if_neg (by omega), show rd + i - rd = i by omega, List.getD, List.getElem?_eq_getElem hi, Option.getD_some, e]
    rw [← this]; exact Comb.one F (by omega)
  have hUB : ∀ t, t < sa.U.length → Comb p n (rd + (offE k sa.cols).length) F fun j => sm k fun l => (sa.U.getD t []).getD l 0 * B l j := fun t ht => by
    refine hF1 _ ?_
    obtain ⟨c, hc⟩ := hba.own t ht
    refine (Comb.sum D.gen c).congr fun j _ => ?_
    have e : (sm m fun i => c i * mulF k (fun i => lf (A i)) B i j) = sm k fun l => (sm m fun i => c i * lf (A i) l) * B l j := by
      unfold mulF
      rw [sm_congr (g := fun i => sm k fun l => c i * lf (A i) l * B l j) fun i _ => by rw [← sm_mul]; exact sm_congr fun l _ => by grind, sm_comm]
      exact sm_congr fun l _ => by rw [sm_mul_r]
    rw [e]
    exact sm_mod fun l hl => by
      have h1 : (sa.U.getD t []).getD l 0 % p = _ := hc l hl
      rw [Int.mul_emod, h1, ← Int.mul_emod]
  have hpiv : ∀ d t, t + d + 1 = sa.U.length → Comb p n (rd + (offE k sa.cols).length) F (B (sa.cols.getD t 0)) := by
    intro d
    induction d using Nat.strongRecOn with
    | ind d ih =>
      intro t ht
      obtain ⟨_, b2, b3, b4, _, _⟩ := ha.row t (by omega)
      have hinv := unit_inv p ((sa.U.getD t []).getD (sa.cols.getD t 0) 0) hp.1 (b2.getD hp.1 _).1 b4
      obtain ⟨z, hz⟩ : ∃ z, minv p ((sa.U.getD t []).getD (sa.cols.getD t 0) 0) = z := ⟨_, rfl⟩
      rw [hz] at hinv
      have hrest : Comb p n (rd + (offE k sa.cols).length) F fun j => sm k fun l => (if l = sa.cols.getD t 0 then 0 else (sa.U.getD t []).getD l 0) * B l j := by
        refine (Comb.sum (m := k) (w := fun l => if l = sa.cols.getD t 0 ∨ (sa.U.getD t []).getD l 0 = 0 then fun _ => 0 else B l) (fun l hl => ?_) fun l => (sa.U.getD t []).getD l 0).congr fun j _ => ?_
        · by_cases e : l = sa.cols.getD t 0 ∨ (sa.U.getD t []).getD l 0 = 0
          · simp only [if_pos e]; exact Comb.zero F
          · simp only [if_neg e]
            by_cases hc : l ∈ sa.cols
            · obtain ⟨i, hi, e2⟩ := List.getElem_of_mem hc
              have e3 : sa.cols.getD i 0 = l := by rw [List.getD, List.getElem?_eq_getElem hi]; exact e2
              have hit : t < i := by
                rcases Nat.lt_trichotomy i t with c | c | c
                · exact absurd (.inr (by rw [← e3]; exact ha.zero t i c (by omega))) e
                · exact absurd (.inl (by rw [← e3, c])) e
                · exact c
              rw [← e3]
              exact ih (sa.U.length - i - 1) (by omega) i (by omega)
            · exact hF2 l (offE_mem.2 ⟨hl, hc⟩)
        · refine congrArg (· % p) (sm_congr fun l _ => ?_)
          by_cases e : l = sa.cols.getD t 0
          · simp [e]
          · by_cases e2 : (sa.U.getD t []).getD l 0 = 0
            · rw [if_neg e, e2]; simp
            · rw [if_neg e, if_neg (by simp only [not_or]; exact ⟨e, e2⟩)]
      refine ((hUB t (by omega)).add hrest z (-z)).congr fun j _ => ?_
      have e1 : (sm k fun l => (sa.U.getD t []).getD l 0 * B l j) = (sm k fun l => (if l = sa.cols.getD t 0 then 0 else (sa.U.getD t []).getD l 0) * B l j) + (sa.U.getD t []).getD (sa.cols.getD t 0) 0 * B (sa.cols.getD t 0) j := by
        rw [← sm_single (n := k) (fun _ => (sa.U.getD t []).getD (sa.cols.getD t 0) 0 * B (sa.cols.getD t 0) j) b3, ← sm_add]
        exact sm_congr fun l _ => by
          by_cases e : l = sa.cols.getD t 0
          · simp [e]
          · rw [if_neg e, if_neg e, Int.add_zero]
      show B (sa.cols.getD t 0) j % p = _
      rw [e1]
      obtain ⟨T, hT⟩ : ∃ T, (sm k fun l => (if l = sa.cols.getD t 0 then 0 else (sa.U.getD t []).getD l 0) * B l j) = T := ⟨_, rfl⟩
      rw [hT]
      obtain ⟨a, ha'⟩ : ∃ a, (sa.U.getD t []).getD (sa.cols.getD t 0) 0 = a := ⟨_, rfl⟩
      rw [ha'] at hinv ⊢
      obtain ⟨b, hb⟩ : ∃ b, B (sa.cols.getD t 0) j = b := ⟨_, rfl⟩
      rw [hb]
      rw [show z * (T + a * b) + -z * T = (a * z) * b by grind, Int.mul_emod, hinv, Int.one_mul, Int.emod_emod]
  have := E.le_of hp (w := F) (s := rd + (offE k sa.cols).length) fun l hl => by
    by_cases hc : l ∈ sa.cols
    · obtain ⟨i, hi, e2⟩ := List.getElem_of_mem hc
      have e3 : sa.cols.getD i 0 = l := by rw [List.getD, List.getElem?_eq_getElem hi]; exact e2
      rw [← e3]
      exact hpiv (sa.U.length - i - 1) i (by omega)
    · exact hF2 l (offE_mem.2 ⟨hl, hc⟩)
  omega
/-- rows in another order have the same rank -/
theorem rank_order (hp : HasInv p) {o : List Int} (ho : Ord m o) {s2 : ElE} (h : ElOk p n R m st) (h2 : ElOk p n (fun i => R (o.getD i 0).toNat) m s2) : s2.U.length = st.U.length := by
  refine Nat.le_antisymm ((h2.bas hp).le hp (h.bas hp) fun i hi => ?_) ((h.bas hp).le hp (h2.bas hp) fun i hi => ?_)
  · have := ho.get hi
    exact Comb.one (fun i => lf (R i)) (by omega)
  · obtain ⟨k, hk, e⟩ := ho.find hi
    have := Comb.one (p := p) (n := n) (r := m) (fun i => lf (R (o.getD i 0).toNat)) hk
    simp only [e, Int.toNat_natCast] at this
    exact this
/-- .. and the determinant times the order's sign -/
theorem det_order {o : List Int} (ho : Ord n o) : detN n (rowsF n fun i => R (o.getD i 0).toNat) = sgnL o * detN n (rowsF n R) := by
  have h1 := (detN_alt n).perm (fun x => lf (R x.toNat)) ho.perm [] (by simp [upL_len])
  have e1 : (upL n).map (fun x => lf (R x.toNat)) = rowsF n R := by
    unfold upL tab rowsF
    rw [List.map_map]
    rfl
  have e2 : o.map (fun x => lf (R x.toNat)) = rowsF n fun i => R (o.getD i 0).toNat := by
    have := tab_of ho.len (f := fun i => o.getD i 0) fun _ _ => rfl
    conv => lhs; rw [this, tab, List.map_map]
    rfl
  rw [List.nil_append, List.nil_append, e1, e2, inv_up] at h1
  rw [sgnL_sg]
  have h2 := sg_sq (invL o)
  have h3 : sg 0 = 1 := rfl
  rw [h3, Int.one_mul] at h1
  grind
theorem rowsF_split {i : Nat} (hi : i < n) (R : Nat → List Int) : rowsF n R = (rowsF n R).take i ++ lf (R i) :: (rowsF n R).drop (i + 1) := by
  rw [← rowsF_get (R := R) hi, ← rwF_drop (by rw [rowsF_len]; exact hi), List.take_append_drop]
theorem rowsF_other {i : Nat} {R R' : Nat → List Int} (h : ∀ k, k < n → k ≠ i → R' k = R k) : (rowsF n R').take i = (rowsF n R).take i ∧ (rowsF n R').drop (i + 1) = (rowsF n R).drop (i + 1) := by
  constructor
  · refine List.ext_getElem? fun k => ?_
    simp only [List.getElem?_take, rowsF, List.getElem?_map]
    by_cases hk : k < i
    · rw [if_pos hk, if_pos hk]
      by_cases hn : k < n
      · simp [hn, h k hn (by omega)]
      · simp [hn]
    · rw [if_neg hk, if_neg hk]
  · refine List.ext_getElem? fun k => ?_
    simp only [List.getElem?_drop, rowsF, List.getElem?_map]
    by_cases hn : i + 1 + k < n
    · simp [hn, h _ hn (by omega)]
    · simp [hn]
/-- a row that is scaled modulo p scales the determinant -/
theorem det_scale {i : Nat} (hi : i < n) {R' : Nat → List Int} {x : Int} (h : ∀ k, k < n → k ≠ i → R' k = R k) (hx : ∀ j, j < n → (R' i).getD j 0 % p = (R i).getD j 0 * x % p) : detN n (rowsF n R') % p = detN n (rowsF n R) * x % p := by
  obtain ⟨e1, e2⟩ := rowsF_other h
  have hl : ∀ y : RowF, ((rowsF n R).take i ++ y :: (rowsF n R).drop (i + 1)).length = n := fun y => by simp [rowsF_len]; omega
  rw [rowsF_split hi R', e1, e2, (detN_alt n).mod (p := p) _ _ (fun j => x * lf (R i) j) _ (hl _) fun j hj => by
    show (R' i).getD j 0 % p = x * (R i).getD j 0 % p
    rw [hx j hj, Int.mul_comm], (detN_alt n).scale _ _ _ x (hl _), ← rowsF_split hi R, Int.mul_comm]
/-- two rows that are alike make it 0 -/
theorem det_alike {i k : Nat} (hi : i < n) (hk : k < n) (hik : i ≠ k) (h : R i = R k) : detN n (rowsF n R) = 0 := by
  have hl : ((rowsF n R).take i ++ lf (R i) :: (rowsF n R).drop (i + 1)).length = n := by simp [rowsF_len]; omega
  rw [rowsF_split hi R]
  rcases Nat.lt_or_gt_of_ne hik with c | c
  · refine (detN_alt n).memR ?_ hl
    have e : lf (R i) = rwF ((rowsF n R).drop (i + 1)) (k - (i + 1)) := by
      rw [h, ← rowsF_get hk]; simp [rwF, List.getD, show i + 1 + (k - (i + 1)) = k by omega]
    rw [e]; exact rwF_mem (by simp [rowsF_len]; omega)
  · refine (detN_alt n).memL ?_ hl
    have e : lf (R i) = rwF ((rowsF n R).take i) k := by
      rw [h, ← rowsF_get hk]; simp [rwF, List.getD, c]
    rw [e]; exact rwF_mem (by simp [rowsF_len]; omega)
end Go.Proofs.Ytdfkojbfgodegaa
/- Rings of an order (in plain Lean; nothing of a program). -/
namespace Go.Proofs.Ytdfkojbfgodegaa

/-- a step of an order, so many times -/
def itL (p : List Int) : Nat → Nat → Nat
  | 0, x => x
  | k + 1, x => (p.getD (itL p k x) 0).toNat
theorem itL_succ (p : List Int) (k x : Nat) : itL p (k + 1) x = (p.getD (itL p k x) 0).toNat := rfl
theorem itL_add (p : List Int) (i k x : Nat) : itL p (i + k) x = itL p i (itL p k x) := by
  induction i with
  | zero => rw [Nat.zero_add]; rfl
  | succ i ih => rw [show i + 1 + k = (i + k) + 1 by omega, itL_succ, itL_succ, ih]
variable {n : Nat} {p : List Int}
theorem Ord.it_lt (h : Ord n p) {x : Nat} (hx : x < n) (k : Nat) : itL p k x < n := by
  induction k with
  | zero => exact hx
  | succ k ih => have := h.get ih; rw [itL_succ]; omega
theorem Ord.step_inj (h : Ord n p) {x y : Nat} (hx : x < n) (hy : y < n) (e : (p.getD x 0).toNat = (p.getD y 0).toNat) : x = y := by
  have h1 := h.get hx
  have h2 := h.get hy
  exact h.inj hx hy (by omega)
theorem Ord.it_inj (h : Ord n p) {x y : Nat} (hx : x < n) (hy : y < n) (k : Nat) (e : itL p k x = itL p k y) : x = y := by
  induction k with
  | zero => exact e
  | succ k ih => exact ih (h.step_inj (h.it_lt hx k) (h.it_lt hy k) e)
/-- each number comes back -/
theorem Ord.comes_back (h : Ord n p) {x : Nat} (hx : x < n) : ∃ r, 1 ≤ r ∧ r ≤ n ∧ itL p r x = x := by
  by_cases hn : ((List.range (n + 1)).map fun k => ((itL p k x : Nat) : Int)).Nodup
  · exfalso
    have := nodup_len (r := upL n) hn fun y hy => by
      obtain ⟨k, _, rfl⟩ := List.mem_map.1 hy
      have := h.it_lt hx k
      exact upL_mem.2 (by omega)
    rw [upL_len] at this
    simp at this
    omega
  · rw [List.Nodup, List.pairwise_map, List.pairwise_iff_getElem] at hn
    simp only [List.length_range, List.getElem_range, Classical.not_forall] at hn
    obtain ⟨i, k, hi, hk, hik, e⟩ := hn
    have e' : itL p i x = itL p k x := by
      have := Classical.not_not.1 e
      omega
    refine ⟨k - i, by omega, by omega, ?_⟩
    rw [show k = i + (k - i) by omega, itL_add] at e'
    exact (h.it_inj hx (h.it_lt hx _) i e').symm
/-- how many steps a ring has -/
def perL (p : List Int) (x : Nat) : Nat := ((List.range p.length).findIdx? fun k => itL p (k + 1) x == x).getD 0 + 1
theorem Ord.per (h : Ord n p) {x : Nat} (hx : x < n) : 1 ≤ perL p x ∧ perL p x ≤ n ∧ itL p (perL p x) x = x ∧ ∀ k, 1 ≤ k → k < perL p x → itL p k x ≠ x := by
  obtain ⟨r, h1, h2, h3⟩ := h.comes_back hx
  have hl : p.length = n := h.len
  cases hf : (List.range p.length).findIdx? fun k => itL p (k + 1) x == x with
  | none =>
    rw [List.findIdx?_eq_none_iff] at hf
    have := hf (r - 1) (List.mem_range.2 (by omega))
    rw [show r - 1 + 1 = r by omega] at this
    simp [h3] at this
  | some k =>
    rw [List.findIdx?_eq_some_iff_getElem] at hf
    obtain ⟨hk, h4, h5⟩ := hf
    simp only [List.length_range] at hk
    simp only [List.getElem_range, beq_iff_eq] at h4
    unfold perL
    have e : ((List.range p.length).findIdx? fun k => itL p (k + 1) x == x) = some k := by
      rw [List.findIdx?_eq_some_iff_getElem]
      exact ⟨by simpa using hk, by simpa using h4, h5⟩
    rw [e]
    simp only [Option.getD_some]
    refine ⟨by omega, by omega, h4, fun j hj1 hj2 => ?_⟩
    have := h5 (j - 1) (by omega)
    simp only [List.getElem_range, show j - 1 + 1 = j by omega] at this
    simpa using this
/-- a number's ring, from it on -/
def ringL (p : List Int) (x : Nat) : List Int := tab (perL p x) fun k => (itL p k x : Int)
theorem ringL_len (p : List Int) (x : Nat) : (ringL p x).length = perL p x := tab_len _ _
theorem ringL_get {x k : Nat} (h : k < perL p x) : (ringL p x).getD k 0 = itL p k x := tab_get _ h
theorem ringL_mem {x : Nat} {y : Int} : y ∈ ringL p x ↔ ∃ k, k < perL p x ∧ y = itL p k x := by
  simp only [ringL, tab, List.mem_map, List.mem_range]
  exact ⟨fun ⟨k, h1, h2⟩ => ⟨k, h1, h2.symm⟩, fun ⟨k, h1, h2⟩ => ⟨k, h1, h2.symm⟩⟩
/-- so many rounds, and so many steps -/
theorem Ord.it_mod (h : Ord n p) {x : Nat} (hx : x < n) (k : Nat) : itL p k x = itL p (k % perL p x) x := by
  obtain ⟨h1, _, h3, _⟩ := h.per hx
  have hr : ∀ q, itL p (q * perL p x) x = x := fun q => by
    induction q with
    | zero => rw [Nat.zero_mul]; rfl
    | succ q ih => rw [Nat.succ_mul, itL_add, h3, ih]
  conv => lhs; rw [← Nat.mod_add_div k (perL p x), Nat.mul_comm, itL_add, hr]
theorem Ord.ring_mem (h : Ord n p) {x : Nat} (hx : x < n) (k : Nat) : (itL p k x : Int) ∈ ringL p x :=
  ringL_mem.2 ⟨k % perL p x, Nat.mod_lt _ (h.per hx).1, by rw [← h.it_mod hx]⟩
/-- who is in whose ring -/
theorem Ord.ring_back (h : Ord n p) {x y : Nat} (hx : x < n) (hy : (y : Int) ∈ ringL p x) : ∃ k, itL p k y = x := by
  obtain ⟨k, hk, e⟩ := ringL_mem.1 hy
  obtain ⟨_, _, h3, _⟩ := h.per hx
  have e' : y = itL p k x := by omega
  exact ⟨perL p x - k, by rw [e', ← itL_add, show perL p x - k + k = perL p x by omega, h3]⟩
theorem Ord.ring_nodup (h : Ord n p) {x : Nat} (hx : x < n) : (ringL p x).Nodup := by
  obtain ⟨_, _, _, h4⟩ := h.per hx
  unfold ringL tab List.Nodup
  rw [List.pairwise_map, List.pairwise_iff_getElem]
  simp only [List.length_range, List.getElem_range]
  intro i k _ hk hik e
  have e' : itL p i x = itL p (i + (k - i)) x := by rw [show i + (k - i) = k by omega]; omega
  rw [itL_add] at e'
  exact h4 (k - i) (by omega) (by omega) (h.it_inj hx (h.it_lt hx _) i e').symm
/-- is a number the least of its ring? -/
def leastB (p : List Int) (x : Nat) : Bool := (ringL p x).all fun y => decide ((x : Int) ≤ y)
theorem leastB_true {x : Nat} (h : leastB p x = true) {y : Int} (hy : y ∈ ringL p x) : (x : Int) ≤ y := by
  unfold leastB at h
  rw [List.all_eq_true] at h
  simpa using h y hy
/-- the rings of the numbers below one -/
def ringsTo (p : List Int) (n : Nat) : List (List Int) := ((List.range n).filter fun x => leastB p x).map (ringL p)
/-- the rings of an order -/
def ringsL (p : List Int) : List (List Int) := ringsTo p p.length
theorem ringsTo_succ (p : List Int) (n : Nat) : ringsTo p (n + 1) = if leastB p n then ringsTo p n ++ [ringL p n] else ringsTo p n := by
  unfold ringsTo
  rw [List.range_succ, List.filter_append]
  cases h : leastB p n <;> simp [h]
theorem ringsTo_mem {k : Nat} {l : List Int} : l ∈ ringsTo p k ↔ ∃ x, x < k ∧ leastB p x = true ∧ l = ringL p x := by
  simp only [ringsTo, List.mem_map, List.mem_filter, List.mem_range]
  exact ⟨fun ⟨x, ⟨h1, h2⟩, h3⟩ => ⟨x, h1, h2, h3.symm⟩, fun ⟨x, h1, h2, h3⟩ => ⟨x, ⟨h1, h2⟩, h3.symm⟩⟩
/-- each number's ring has a least one -/
theorem Ord.has_least (h : Ord n p) : ∀ m x : Nat, x ≤ m → x < n → ∃ s, s < n ∧ leastB p s = true ∧ (x : Int) ∈ ringL p s := by
  intro m
  induction m with
  | zero =>
    intro x hx hn
    obtain rfl : x = 0 := by omega
    refine ⟨0, hn, ?_, h.ring_mem hn 0⟩
    unfold leastB
    rw [List.all_eq_true]
    intro y hy
    obtain ⟨k, _, rfl⟩ := ringL_mem.1 hy
    simp
  | succ m ih =>
    intro x hx hn
    cases hl : leastB p x with
    | true => exact ⟨x, hn, hl, h.ring_mem hn 0⟩
    | false =>
      unfold leastB at hl
      rw [List.all_eq_false] at hl
      obtain ⟨y, hy, hlt⟩ := hl
      obtain ⟨k, hk, rfl⟩ := ringL_mem.1 hy
      have hlt : itL p k x < x := by simpa using hlt
      obtain ⟨s, h1, h2, h3⟩ := ih (itL p k x) (by omega) (h.it_lt hn k)
      refine ⟨s, h1, h2, ?_⟩
      obtain ⟨j, hj⟩ := h.ring_back hn hy
      obtain ⟨i, _, hi⟩ := ringL_mem.1 h3
      have hi : itL p k x = itL p i s := by omega
      have e : x = itL p (j + i) s := by rw [itL_add, ← hi, hj]
      rw [e]
      exact h.ring_mem h1 _
theorem Ord.rings_apart (h : Ord n p) {s t : Nat} (hs : s < n) (ht : t < n) (ls : leastB p s = true) (lt : leastB p t = true) {y : Int} (h1 : y ∈ ringL p s) (h2 : y ∈ ringL p t) : s = t := by
  obtain ⟨i, _, e1⟩ := ringL_mem.1 h1
  obtain ⟨k, _, e2⟩ := ringL_mem.1 h2
  have e : itL p i s = itL p k t := by omega
  obtain ⟨a, ha⟩ := h.ring_back hs (y := itL p i s) (by rw [← e1]; exact h1)
  obtain ⟨b, hb⟩ := h.ring_back ht (y := itL p k t) (by rw [← e2]; exact h2)
  have m1 := leastB_true lt (y := s) (by
    have := h.ring_mem ht (a + k)
    rwa [itL_add, ← e, ha] at this)
  have m2 := leastB_true ls (y := t) (by
    have := h.ring_mem hs (b + i)
    rwa [itL_add, e, hb] at this)
  omega
/-- all rings, one behind the other, have each number once -/
theorem Ord.rings_flat (h : Ord n p) : Ord n (ringsL p).flatten := by
  have hl : p.length = n := h.len
  refine Ord.of_perm (nodup_sub (upL_nodup n) (fun x hx => ?_) ?_)
  · obtain ⟨h1, h2⟩ := upL_mem.1 hx
    obtain ⟨s, hs, ls, hm⟩ := h.has_least x.toNat x.toNat (Nat.le_refl _) (by omega)
    rw [Int.toNat_of_nonneg h1] at hm
    exact List.mem_flatten.2 ⟨_, ringsTo_mem.2 ⟨s, by omega, ls, rfl⟩, hm⟩
  · rw [upL_len]
    have hn : (ringsL p).flatten.Nodup := by
      unfold ringsL
      rw [hl]
      have : ∀ k, k ≤ n → (ringsTo p k).flatten.Nodup := fun k => by
        induction k with
        | zero => intro _; simp [ringsTo]
        | succ k ih =>
          intro hk
          rw [ringsTo_succ]
          split
          case isTrue hlk =>
            rw [List.flatten_append, List.nodup_append]
            refine ⟨ih (by omega), by simpa using h.ring_nodup (by omega), fun a ha b hb e => ?_⟩
            subst e
            obtain ⟨l, hl1, hl2⟩ := List.mem_flatten.1 ha
            obtain ⟨x, hx, lx, rfl⟩ := ringsTo_mem.1 hl1
            have hb' : a ∈ ringL p k := by simpa using hb
            have := h.rings_apart (by omega) (by omega) lx hlk hl2 hb'
            omega
          case isFalse => exact ih (by omega)
      exact this n (Nat.le_refl _)
    have := nodup_len (r := upL n) hn fun y hy => by
      obtain ⟨l, hl1, hl2⟩ := List.mem_flatten.1 hy
      obtain ⟨x, hx, _, rfl⟩ := ringsTo_mem.1 hl1
      obtain ⟨k, _, rfl⟩ := ringL_mem.1 hl2
      have := h.it_lt (x := x) (by omega) k
      exact upL_mem.2 (by omega)
    rwa [upL_len] at this
/-- a step along a ring -/
theorem Ord.ring_step (h : Ord n p) {x : Nat} (hx : x < n) (k : Nat) : p.getD (itL p k x) 0 = itL p ((k + 1) % perL p x) x := by
  rw [← h.it_mod hx, itL_succ, Int.toNat_of_nonneg (h.get (h.it_lt hx k)).1]
end Go.Proofs.Ytdfkojbfgodegaa
