/- What the texts CupP, KryM, OwM, RingM show, in one text. -/
import Derived.Test.YtijpeepdedfhoaaGreatBun16
import Derived.Test.YtijpeepdedfhoaaGreatBun05
import Derived.Test.YtijpeepdedfhoaaGreatBun08
/- Ranks of products, orders of rows, rows that are scaled or alike: over a field (in plain Lean; nothing of a program). -/
namespace Go.Proofs.YtijpeepdedfhoaaGreat
variable {p : Int} {n m : Nat} {R : Nat → List Int} {st : ElE}

theorem Comb.add {n r : Nat} {u : Nat → RowF} {v w : RowF} (h : Comb p n r u v) (k : Comb p n r u w) (a b : Int) : Comb p n r u fun j => a * v j + b * w j := by
  have := Comb.sum (p := p) (n := n) (r := r) (m := 2) (u := u) (w := fun i => if i = 0 then v else w) (fun i _ => by
    by_cases e : i = 0
    · simp only [if_pos e]; exact h
    · simp only [if_neg e]; exact k) fun i => if i = 0 then a else b
  refine this.congr fun j _ => ?_
  simp [sm]
theorem Comb.zero {n r : Nat} (u : Nat → RowF) : Comb p n r u fun _ => 0 := ⟨fun _ => 0, fun j _ => by rw [sm_zero fun k _ => by simp]⟩
/-- the columns that no rest has -/
def offE (k : Nat) (cols : List Nat) : List Nat := (List.range k).filter fun l => decide (l ∉ cols)
theorem offE_mem {k : Nat} {cols : List Nat} {l : Nat} : l ∈ offE k cols ↔ l < k ∧ l ∉ cols := by simp [offE]
theorem offE_len {k : Nat} {cols : List Nat} (hn : cols.Nodup) (hb : ∀ c ∈ cols, c < k) : (offE k cols).length + cols.length = k := by
  have h1 : ((List.range k).filter fun l => decide (l ∈ cols)).length = cols.length := by
    have hp : ((List.range k).filter fun l => decide (l ∈ cols)).Perm cols := by
      rw [List.perm_iff_count]
      intro a
      have hnr : ((List.range k).filter fun l => decide (l ∈ cols)).Nodup := List.Pairwise.filter _ List.nodup_range
      have c1 := List.nodup_iff_count.1 hnr a
      have c2 := List.nodup_iff_count.1 hn a
      have e : (0 < List.count a ((List.range k).filter fun l => decide (l ∈ cols))) ↔ 0 < List.count a cols := by
        rw [List.count_pos_iff, List.count_pos_iff]
        simp only [List.mem_filter, List.mem_range, decide_eq_true_eq]
        exact ⟨fun h => h.2, fun h => ⟨hb a h, h⟩⟩
      omega
    exact hp.length_eq
  have h2 : ∀ l : List Nat, (l.filter fun x => decide (x ∉ cols)).length + (l.filter fun x => decide (x ∈ cols)).length = l.length := by
    intro l
    induction l with
    | nil => rfl
    | cons a l ih =>
      rw [List.filter_cons, List.filter_cons]
      by_cases e : a ∈ cols
      · rw [if_neg (by simp [e]), if_pos (by simp [e])]; simp only [List.length_cons]; omega
      · rw [if_pos (by simp [e]), if_neg (by simp [e])]; simp only [List.length_cons]; omega
  have := h2 (List.range k)
  rw [h1, List.length_range] at this
  exact this
theorem ElOk.cols_nodup (h : ElOk p n R m st) : st.cols.Nodup := by
  unfold List.Nodup
  rw [List.pairwise_iff_getElem]
  intro i k hi hk hik e
  have e' : st.cols.getD i 0 = st.cols.getD k 0 := by simp only [List.getD, List.getElem?_eq_getElem hi, List.getElem?_eq_getElem hk, Option.getD_some]; exact e
  have := h.ech.inj (by have := h.lk; omega) (by have := h.lk; omega) e'
  omega
theorem ElOk.cols_lt (h : ElOk p n R m st) {c : Nat} (hc : c ∈ st.cols) : c < n := by
  obtain ⟨k, hk, rfl⟩ := List.getElem_of_mem hc
  have := (h.row k (by have := h.lk; omega)).2.2.1
  rwa [List.getD, List.getElem?_eq_getElem hk] at this
/-- a product's rank isn't less than both ranks, less what is between -/
theorem rank_sylvester (hp : HasInv p) {m k n rd rb : Nat} {A : Nat → List Int} {B uD uB : Nat → RowF} {sa : ElE} (ha : ElOk p k A m sa) (D : Bas p n m rd (mulF k (fun i => lf (A i)) B) uD) (E : Bas p n k rb B uB) : sa.U.length + rb ≤ rd + k := by
  have hlen := offE_len ha.cols_nodup fun c hc => ha.cols_lt hc
  have hlk := ha.lk
  have hba := ha.bas hp
  -- what spans all of B's rows
  let F : Nat → RowF := fun i => if i < rd then uD i else B ((offE k sa.cols).getD (i - rd) 0)
  have hF1 : ∀ v, Comb p n rd uD v → Comb p n (rd + (offE k sa.cols).length) F v := fun v hv => hv.trans fun i hi => by
    have : F i = uD i := if_pos hi
    rw [← this]; exact Comb.one F (by omega)
  have hF2 : ∀ l, l ∈ offE k sa.cols → Comb p n (rd + (offE k sa.cols).length) F (B l) := fun l hl => by
    obtain ⟨i, hi, e⟩ := List.getElem_of_mem hl
    have : F (rd + i) = B l := by
      show (if rd + i < rd then _ else B ((offE k sa.cols).getD (rd + i - rd) 0)) = _
      rw [if_neg (by omega), show rd + i - rd = i by omega, List.getD, List.getElem?_eq_getElem hi, Option.getD_some, e]
    rw [← this]; exact Comb.one F (by omega)
  have hUB : ∀ t, t < sa.U.length → Comb p n (rd + (offE k sa.cols).length) F fun j => sm k fun l => (sa.U.getD t []).getD l 0 * B l j := fun t ht => by
    refine hF1 _ ?_
    obtain ⟨c, hc⟩ := hba.own t ht
    refine (Comb.sum D.gen c).congr fun j _ => ?_
    have e : (sm m fun i => c i * mulF k (fun i => lf (A i)) B i j) = sm k fun l => (sm m fun i => c i * lf (A i) l) * B l j := by
      unfold mulF
      rw [sm_congr (g := fun i => sm k fun l => c i * lf (A i) l * B l j) fun i _ => by rw [← sm_mul]; exact sm_congr fun l _ => by grind, sm_comm]
      exact sm_congr fun l _ => by rw [sm_mul_r]
    rw [e]
    exact sm_mod fun l hl => by
      have h1 : (sa.U.getD t []).getD l 0 % p = _ := hc l hl
      rw [Int.mul_emod, h1, ← Int.mul_emod]
  have hpiv : ∀ d t, t + d + 1 = sa.U.length → Comb p n (rd + (offE k sa.cols).length) F (B (sa.cols.getD t 0)) := by
    intro d
    induction d using Nat.strongRecOn with
    | ind d ih =>
      intro t ht
      obtain ⟨_, b2, b3, b4, _, _⟩ := ha.row t (by omega)
      have hinv := unit_inv p ((sa.U.getD t []).getD (sa.cols.getD t 0) 0) hp.1 (b2.getD hp.1 _).1 b4
      obtain ⟨z, hz⟩ : ∃ z, minv p ((sa.U.getD t []).getD (sa.cols.getD t 0) 0) = z := ⟨_, rfl⟩
      rw [hz] at hinv
      have hrest : Comb p n (rd + (offE k sa.cols).length) F fun j => sm k fun l => (if l = sa.cols.getD t 0 then 0 else (sa.U.getD t []).getD l 0) * B l j := by
        refine (Comb.sum (m := k) (w := fun l => if l = sa.cols.getD t 0 ∨ (sa.U.getD t []).getD l 0 = 0 then fun _ => 0 else B l) (fun l hl => ?_) fun l => (sa.U.getD t []).getD l 0).congr fun j _ => ?_
        · by_cases e : l = sa.cols.getD t 0 ∨ (sa.U.getD t []).getD l 0 = 0
          · simp only [if_pos e]; exact Comb.zero F
          · simp only [if_neg e]
            by_cases hc : l ∈ sa.cols
            · obtain ⟨i, hi, e2⟩ := List.getElem_of_mem hc
              have e3 : sa.cols.getD i 0 = l := by rw [List.getD, List.getElem?_eq_getElem hi]; exact e2
              have hit : t < i := by
                rcases Nat.lt_trichotomy i t with c | c | c
                · exact absurd (.inr (by rw [← e3]; exact ha.zero t i c (by omega))) e
                · exact absurd (.inl (by rw [← e3, c])) e
                · exact c
              rw [← e3]
              exact ih (sa.U.length - i - 1) (by omega) i (by omega)
            · exact hF2 l (offE_mem.2 ⟨hl, hc⟩)
        · refine congrArg (· % p) (sm_congr fun l _ => ?_)
          by_cases e : l = sa.cols.getD t 0
          · simp [e]
          · by_cases e2 : (sa.U.getD t []).getD l 0 = 0
            · rw [if_neg e, e2]; simp
            · rw [if_neg e, if_neg (by simp only [not_or]; exact ⟨e, e2⟩)]
      refine ((hUB t (by omega)).add hrest z (-z)).congr fun j _ => ?_
      have e1 : (sm k fun l => (sa.U.getD t []).getD l 0 * B l j) = (sm k fun l => (if l = sa.cols.getD t 0 then 0 else (sa.U.getD t []).getD l 0) * B l j) + (sa.U.getD t []).getD (sa.cols.getD t 0) 0 * B (sa.cols.getD t 0) j := by
        rw [← sm_single (n := k) (fun _ => (sa.U.getD t []).getD (sa.cols.getD t 0) 0 * B (sa.cols.getD t 0) j) b3, ← sm_add]
        exact sm_congr fun l _ => by
          by_cases e : l = sa.cols.getD t 0
          · simp [e]
          · rw [if_neg e, if_neg e, Int.add_zero]
      show B (sa.cols.getD t 0) j % p = _
      rw [e1]
      obtain ⟨T, hT⟩ : ∃ T, (sm k fun l => (if l = sa.cols.getD t 0 then 0 else (sa.U.getD t []).getD l 0) * B l j) = T := ⟨_, rfl⟩
      rw [hT]
      obtain ⟨a, ha'⟩ : ∃ a, (sa.U.getD t []).getD (sa.cols.getD t 0) 0 = a := ⟨_, rfl⟩
      rw [ha'] at hinv ⊢
      obtain ⟨b, hb⟩ : ∃ b, B (sa.cols.getD t 0) j = b := ⟨_, rfl⟩
      rw [hb]
      rw [show z * (T + a * b) + -z * T = (a * z) * b by grind, Int.mul_emod, hinv, Int.one_mul, Int.emod_emod]
  have := E.le_of hp (w := F) (s := rd + (offE k sa.cols).length) fun l hl => by
    by_cases hc : l ∈ sa.cols
    · obtain ⟨i, hi, e2⟩ := List.getElem_of_mem hc
      have e3 : sa.cols.getD i 0 = l := by rw [List.getD, List.getElem?_eq_getElem hi]; exact e2
      rw [← e3]
      exact hpiv (sa.U.length - i - 1) i (by omega)
    · exact hF2 l (offE_mem.2 ⟨hl, hc⟩)
  omega
/-- rows in another order have the same rank -/
theorem rank_order (hp : HasInv p) {o : List Int} (ho : Ord m o) {s2 : ElE} (h : ElOk p n R m st) (h2 : ElOk p n (fun i => R (o.getD i 0).toNat) m s2) : s2.U.length = st.U.length := by
  refine Nat.le_antisymm ((h2.bas hp).le hp (h.bas hp) fun i hi => ?_) ((h.bas hp).le hp (h2.bas hp) fun i hi => ?_)
  · have := ho.get hi
    exact Comb.one (fun i => lf (R i)) (by omega)
  · obtain ⟨k, hk, e⟩ := ho.find hi
    have := Comb.one (p := p) (n := n) (r := m) (fun i => lf (R (o.getD i 0).toNat)) hk
    simp only [e, Int.toNat_natCast] at this
    exact this
/-- .. and the determinant times the order's sign -/
theorem det_order {o : List Int} (ho : Ord n o) : detN n (rowsF n fun i => R (o.getD i 0).toNat) = sgnL o * detN n (rowsF n R) := by
  have h1 := (detN_alt n).perm (fun x => lf (R x.toNat)) ho.perm [] (by simp [upL_len])
  have e1 : (upL n).map (fun x => lf (R x.toNat)) = rowsF n R := by
    unfold upL tab rowsF
    rw [List.map_map]
    rfl
  have e2 : o.map (fun x => lf (R x.toNat)) = rowsF n fun i => R (o.getD i 0).toNat := by
    have := tab_of ho.len (f := fun i => o.getD i 0) fun _ _ => rfl
    conv => lhs; rw [this, tab, List.map_map]
    rfl
  rw [List.nil_append, List.nil_append, e1, e2, inv_up] at h1
  rw [sgnL_sg]
  have h2 := sg_sq (invL o)
  have h3 : sg 0 = 1 := rfl
  rw [h3, Int.one_mul] at h1
  grind
theorem rowsF_split {i : Nat} (hi : i < n) (R : Nat → List Int) : rowsF n R = (rowsF n R).take i ++ lf (R i) :: (rowsF n R).drop (i + 1) := by
  rw [← rowsF_get (R := R) hi, ← rwF_drop (by rw [rowsF_len]; exact hi), List.take_append_drop]
theorem rowsF_other {i : Nat} {R R' : Nat → List Int} (h : ∀ k, k < n → k ≠ i → R' k = R k) : (rowsF n R').take i = (rowsF n R).take i ∧ (rowsF n R').drop (i + 1) = (rowsF n R).drop (i + 1) := by
  constructor
  · refine List.ext_getElem? fun k => ?_
    simp only [List.getElem?_take, rowsF, List.getElem?_map]
    by_cases hk : k < i
    · rw [if_pos hk, if_pos hk]
      by_cases hn : k < n
      · simp [hn, h k hn (by omega)]
      · simp [hn]
    · rw [if_neg hk, if_neg hk]
  · refine List.ext_getElem? fun k => ?_
    simp only [List.getElem?_drop, rowsF, List.getElem?_map]
    by_cases hn : i + 1 + k < n
    · simp [hn, h _ hn (by omega)]
    · simp [hn]
/-- a row that is scaled modulo p scales the determinant -/
theorem det_scale {i : Nat} (hi : i < n) {R' : Nat → List Int} {x : Int} (h : ∀ k, k < n → k ≠ i → R' k = R k) (hx : ∀ j, j < n → (R' i).getD j 0 % p = (R i).getD j 0 * x % p) : detN n (rowsF n R') % p = detN n (rowsF n R) * x % p := by
  obtain ⟨e1, e2⟩ := rowsF_other h
  have hl : ∀ y : RowF, ((rowsF n R).take i ++ y :: (rowsF n R).drop (i + 1)).length = n := fun y => by simp [rowsF_len]; omega
  rw [rowsF_split hi R', e1, e2, (detN_alt n).mod (p := p) _ _ (fun j => x * lf (R i) j) _ (hl _) fun j hj => by
    show (R' i).getD j 0 % p = x * (R i).getD j 0 % p
    rw [hx j hj, Int.mul_comm], (detN_alt n).scale _ _ _ x (hl _), ← rowsF_split hi R, Int.mul_comm]
/-- two rows that are alike make it 0 -/
theorem det_alike {i k : Nat} (hi : i < n) (hk : k < n) (hik : i ≠ k) (h : R i = R k) : detN n (rowsF n R) = 0 := by
  have hl : ((rowsF n R).take i ++ lf (R i) :: (rowsF n R).drop (i + 1)).length = n := by simp [rowsF_len]; omega
  rw [rowsF_split hi R]
  rcases Nat.lt_or_gt_of_ne hik with c | c
  · refine (detN_alt n).memR ?_ hl
    have e : lf (R i) = rwF ((rowsF n R).drop (i + 1)) (k - (i + 1)) := by
      rw [h, ← rowsF_get hk]; simp [rwF, List.getD, show i + 1 + (k - (i + 1)) = k by omega]
    rw [e]; exact rwF_mem (by simp [rowsF_len]; omega)
  · refine (detN_alt n).memL ?_ hl
    have e : lf (R i) = rwF ((rowsF n R).take i) k := by
      rw [h, ← rowsF_get hk]; simp [rwF, List.getD, c]
    rw [e]; exact rwF_mem (by simp [rowsF_len]; omega)
end Go.Proofs.YtijpeepdedfhoaaGreat
/- A matrix done to a vector again and again, and polynomials of it: sums, products, who makes 0 of what; the degree that is always enough (in plain Lean; nothing of a program). -/
namespace Go.Proofs.YtijpeepdedfhoaaGreat
variable {p : Int} {n : Nat} {A : Nat → RowF}

/-- what a matrix makes of a vector -/
def mapF (n : Nat) (A : Nat → RowF) (v : RowF) : RowF := fun i => sm n fun k => A i k * v k
/-- .. so many times -/
def itF (n : Nat) (A : Nat → RowF) : Nat → RowF → RowF
  | 0, v => v
  | k + 1, v => mapF n A (itF n A k v)
/-- a polynomial of the matrix, of d numbers -/
def doF (n : Nat) (A : Nat → RowF) (d : Nat) (f : Nat → Int) (v : RowF) : RowF := fun i => sm d fun k => f k * itF n A k v i
/-- modulo p, on n places, the same -/
def Eqv (p : Int) (n : Nat) (u v : RowF) : Prop := ∀ i, i < n → u i % p = v i % p
theorem Eqv.refl (u : RowF) : Eqv p n u u := fun _ _ => rfl
theorem Eqv.symm {u v : RowF} (h : Eqv p n u v) : Eqv p n v u := fun i hi => (h i hi).symm
theorem Eqv.trans {u v w : RowF} (h : Eqv p n u v) (k : Eqv p n v w) : Eqv p n u w := fun i hi => (h i hi).trans (k i hi)
theorem itF_add (a b : Nat) (v : RowF) : itF n A (a + b) v = itF n A a (itF n A b v) := by
  induction a with
  | zero => rw [Nat.zero_add]; rfl
  | succ a ih => rw [Nat.add_right_comm]; show mapF n A _ = mapF n A _; rw [ih]
theorem itF_succ (k : Nat) (v : RowF) : itF n A (k + 1) v = itF n A k (mapF n A v) := itF_add k 1 v
theorem map_sum (m : Nat) (c : Nat → Int) (w : Nat → RowF) : mapF n A (fun i => sm m fun j => c j * w j i) = fun i => sm m fun j => c j * mapF n A (w j) i := by
  funext i
  unfold mapF
  rw [sm_congr (g := fun k => sm m fun j => c j * (A i k * w j k)) fun k _ => by rw [← sm_mul]; exact sm_congr fun j _ => by grind, sm_comm]
  exact sm_congr fun j _ => sm_mul _ _ _
theorem it_sum (k m : Nat) (c : Nat → Int) (w : Nat → RowF) : itF n A k (fun i => sm m fun j => c j * w j i) = fun i => sm m fun j => c j * itF n A k (w j) i := by
  induction k with
  | zero => rfl
  | succ k ih => show mapF n A _ = _; rw [ih, map_sum]; rfl
theorem do_sum (d : Nat) (f : Nat → Int) (m : Nat) (c : Nat → Int) (w : Nat → RowF) : doF n A d f (fun i => sm m fun j => c j * w j i) = fun i => sm m fun j => c j * doF n A d f (w j) i := by
  funext i
  unfold doF
  rw [sm_congr (g := fun k => sm m fun j => c j * (f k * itF n A k (w j) i)) fun k _ => by rw [it_sum, ← sm_mul]; exact sm_congr fun j _ => by grind, sm_comm]
  exact sm_congr fun j _ => sm_mul _ _ _
theorem do_it (d : Nat) (f : Nat → Int) (k : Nat) (v : RowF) : doF n A d f (itF n A k v) = itF n A k (doF n A d f v) := by
  unfold doF
  rw [it_sum]
  funext i
  exact sm_congr fun j _ => by rw [← itF_add, Nat.add_comm, itF_add]
theorem map_mod {u v : RowF} (h : Eqv p n u v) (i : Nat) : mapF n A u i % p = mapF n A v i % p := sm_mod fun k hk => by rw [← mm_r, h k hk, mm_r]
theorem it_mod {u v : RowF} (h : Eqv p n u v) : ∀ k, Eqv p n (itF n A k u) (itF n A k v)
  | 0 => h
  | k + 1 => fun i _ => map_mod (it_mod h k) i
theorem do_mod {u v : RowF} (h : Eqv p n u v) {d : Nat} {f g : Nat → Int} (hf : ∀ k, k < d → f k % p = g k % p) : Eqv p n (doF n A d f u) (doF n A d g v) := fun i hi =>
  sm_mod fun k hk => by rw [Int.mul_emod, hf k hk, it_mod h k i hi, ← Int.mul_emod]
theorem it_zero {u : RowF} (h : ∀ i, i < n → u i % p = 0) (k : Nat) : ∀ i, i < n → itF n A k u i % p = 0 := by
  induction k with
  | zero => exact h
  | succ k ih => exact fun i _ => sm_mz fun j hj => mz_mul (ih j hj) _
theorem do_zero {u : RowF} (h : ∀ i, i < n → u i % p = 0) (d : Nat) (f : Nat → Int) : ∀ i, i < n → doF n A d f u i % p = 0 := fun i hi =>
  sm_mz fun k _ => mz_mul (it_zero h k i hi) _
theorem sm_cut {f : Nat → Int} {d e : Nat} (hd : d ≤ e) (h : ∀ k, d ≤ k → f k = 0) : sm e f = sm d f := by
  rw [sm_piece (n := e) 0 d (by omega) (fun i hi => absurd hi (Nat.not_lt_zero _)) fun i h1 _ => h i (by omega)]
  exact sm_congr fun i _ => by rw [Nat.zero_add]
theorem do_cut {f : Ser p} {d e : Nat} (hf : f.low d) (hd : d ≤ e) (v : RowF) : doF n A e f.co v = doF n A d f.co v := by
  funext i
  exact sm_cut hd fun k hk => by rw [hf k hk, Int.zero_mul]
theorem do_same {f : Ser p} {d e : Nat} (hf : f.low d) (hg : f.low e) (v : RowF) : doF n A e f.co v = doF n A d f.co v := by
  rcases Nat.le_total d e with h | h
  · exact do_cut hf h v
  · exact (do_cut hg h v).symm
/-- a product's numbers, each with its own -/
theorem sm_conv {f g F : Nat → Int} {a b : Nat} (hf : ∀ i, a ≤ i → f i = 0) (hg : ∀ j, b ≤ j → g j = 0) : (sm (a + b) fun k => cv f g k * F k) = sm a fun i => sm b fun j => f i * g j * F (i + j) := by
  cases h : a + b with
  | zero =>
    obtain ⟨rfl, rfl⟩ : a = 0 ∧ b = 0 := by omega
    rfl
  | succ N =>
    have e1 : (sm (N + 1) fun k => cv f g k * F k) = sm (N + 1) fun k => sm (k + 1) fun i => f i * g (k - i) * F k := sm_congr fun k _ => by unfold cv; rw [sm_mul_r]
    rw [e1, sm_tri (fun k i => f i * g (k - i) * F k) N]
    have e2 : (sm (N + 1) fun j => sm (N + 1 - j) fun k => f j * g (j + k - j) * F (j + k)) = sm (N + 1) fun i => sm b fun j => f i * g j * F (i + j) := sm_congr fun i hi => by
      rcases Nat.lt_or_ge i a with c | c
      · rw [sm_cut (d := b) (by omega) fun k hk => by rw [hg _ (by omega)]; simp]
        exact sm_congr fun j _ => by rw [show i + j - i = j by omega]
      · rw [sm_zero fun k _ => by rw [hf i c]; simp, sm_zero fun k _ => by rw [hf i c]; simp]
    rw [e2]
    exact sm_cut (by omega) fun i hi => sm_zero fun j _ => by rw [hf i hi]; simp
theorem do_mul {f g : Ser p} {a b : Nat} (hf : f.low a) (hg : g.low b) (v : RowF) : Eqv p n (doF n A (a + b) (f * g).co v) (doF n A a f.co (doF n A b g.co v)) := fun i hi => by
  have e1 : doF n A (a + b) (f * g).co v i % p = (sm (a + b) fun k => cv f.co g.co k * itF n A k v i) % p := sm_mod fun k _ => by rw [Ser.mul_co, mm_l]
  rw [e1, sm_conv hf hg]
  refine congrArg (· % p) (sm_congr fun k _ => ?_)
  show _ = f.co k * itF n A k (fun i => sm b fun j => g.co j * itF n A j v i) i
  rw [it_sum, ← sm_mul]
  exact sm_congr fun j _ => by rw [itF_add, Int.mul_assoc]

theorem sm_join (a : Nat) (f : Nat → Int) : ∀ b, sm (a + b) f = sm a f + sm b fun j => f (a + j)
  | 0 => by show sm a f = sm a f + 0; rw [Int.add_zero]
  | b + 1 => by show sm (a + b) f + f (a + b) = sm a f + (sm b (fun j => f (a + j)) + f (a + b)); rw [sm_join a f b]; omega

/-! ### who makes 0 -/
/-- a polynomial of the matrix makes 0 of it -/
def Kil (p : Int) (n : Nat) (A : Nat → RowF) (f : Ser p) (v : RowF) : Prop := ∃ d, f.low d ∧ ∀ i, i < n → doF n A d f.co v i % p = 0
theorem Kil.at_ {f : Ser p} {v : RowF} (h : Kil p n A f v) {d : Nat} (hd : f.low d) : ∀ i, i < n → doF n A d f.co v i % p = 0 := by
  obtain ⟨e, he, h⟩ := h
  rw [do_same he hd]; exact h
theorem Kil.poly {f : Ser p} {v : RowF} (h : Kil p n A f v) : f.poly := ⟨h.choose, h.choose_spec.1⟩
theorem Kil.mul {f q : Ser p} {v : RowF} (h : Kil p n A f v) (hq : q.poly) : Kil p n A (q * f) v := by
  obtain ⟨a, ha⟩ := hq
  obtain ⟨b, hb, h⟩ := h
  refine ⟨a + b, (ha.mul hb).mono (by omega), fun i hi => ?_⟩
  rw [do_mul ha hb v i hi]
  exact do_zero h a _ i hi
theorem Kil.mul' {f q : Ser p} {v : RowF} (h : Kil p n A f v) (hq : q.poly) : Kil p n A (f * q) v := by rw [Ser.mul_comm]; exact h.mul hq
theorem Kil.zero (v : RowF) : Kil p n A 0 v := ⟨0, Ser.low_zero 0, fun _ _ => rfl⟩
theorem Kil.add {f g : Ser p} {v : RowF} (h : Kil p n A f v) (k : Kil p n A g v) : Kil p n A (f + g) v := by
  obtain ⟨a, ha⟩ := h.poly
  obtain ⟨b, hb⟩ := k.poly
  have h1 := h.at_ (ha.mono (show a ≤ a + b by omega))
  have h2 := k.at_ (hb.mono (show b ≤ a + b by omega))
  refine ⟨a + b, (ha.mono (by omega)).add (hb.mono (by omega)), fun i hi => ?_⟩
  have e : doF n A (a + b) (f + g).co v i % p = (doF n A (a + b) f.co v i + doF n A (a + b) g.co v i) % p := by
    unfold doF
    rw [← sm_add]
    exact sm_mod fun k _ => by rw [Ser.add_co, mm_l, Int.add_mul]
  rw [e]
  exact mz_add (h1 i hi) (h2 i hi)
theorem Kil.sub {f g : Ser p} {v : RowF} (h : Kil p n A f v) (k : Kil p n A g v) : Kil p n A (f - g) v := by
  obtain ⟨a, ha⟩ := h.poly
  obtain ⟨b, hb⟩ := k.poly
  have h1 := h.at_ (ha.mono (show a ≤ a + b by omega))
  have h2 := k.at_ (hb.mono (show b ≤ a + b by omega))
  refine ⟨a + b, (ha.mono (by omega)).sub (hb.mono (by omega)), fun i hi => ?_⟩
  have e : doF n A (a + b) (f - g).co v i % p = (doF n A (a + b) f.co v i + -doF n A (a + b) g.co v i) % p := by
    unfold doF
    rw [← sm_neg, ← sm_add]
    exact sm_mod fun k _ => by rw [Ser.sub_co, mm_l, Int.sub_mul]; exact congrArg (· % p) (by omega)
  rw [e]
  exact mz_add (h1 i hi) (mz_neg (h2 i hi))
theorem Kil.it {f : Ser p} {v : RowF} (h : Kil p n A f v) (k : Nat) : Kil p n A f (itF n A k v) := by
  obtain ⟨d, hd, h⟩ := h
  refine ⟨d, hd, fun i hi => ?_⟩
  rw [do_it]
  exact it_zero h k i hi
theorem Kil.congr {f : Ser p} {u v : RowF} (h : Kil p n A f u) (e : Eqv p n v u) : Kil p n A f v := by
  obtain ⟨d, hd, h⟩ := h
  exact ⟨d, hd, fun i hi => by rw [do_mod e (fun _ _ => rfl) i hi]; exact h i hi⟩
theorem Kil.sum {f : Ser p} (hf : f.poly) {m : Nat} (c : Nat → Int) {w : Nat → RowF} (h : ∀ j, j < m → Kil p n A f (w j)) : Kil p n A f fun i => sm m fun j => c j * w j i := by
  obtain ⟨d, hd⟩ := hf
  refine ⟨d, hd, fun i hi => ?_⟩
  rw [do_sum]
  exact sm_mz fun j hj => mz_mul ((h j hj).at_ hd i hi) _
theorem Kil.comb {f : Ser p} (hf : f.poly) {m : Nat} {w : Nat → RowF} {v : RowF} (hv : Comb p n m w v) (h : ∀ j, j < m → Kil p n A f (w j)) : Kil p n A f v := by
  obtain ⟨c, hc⟩ := hv
  exact (Kil.sum hf c h).congr hc
/-- the vector that is 1 at one place -/
def uniF (i : Nat) : RowF := fun k => if k = i then 1 else 0
theorem comb_uni (v : RowF) : Comb p n n uniF v := ⟨v, fun j hj => by
  rw [sm_congr (g := fun k => if k = j then v k else 0) fun k _ => by
    unfold uniF
    by_cases e : k = j
    · rw [if_pos e, if_pos e.symm, Int.mul_one]
    · rw [if_neg e, if_neg (fun h => e h.symm), Int.mul_zero], sm_single v hj]⟩
theorem Kil.all {f : Ser p} (hf : f.poly) (h : ∀ i, i < n → Kil p n A f (uniF i)) (v : RowF) : Kil p n A f v := Kil.comb hf (comb_uni v) h

/-! ### free rows, one more -/
theorem Ind.snoc (hp : HasInv p) {r : Nat} {u : Nat → RowF} (h : Ind p n r u) (hn : ¬ Comb p n r u (u r)) : Ind p n (r + 1) u := by
  intro x hx
  by_cases h0 : x r % p = 0
  · have h1 := h x fun j hj => by
      have := hx j hj
      rw [sm, Int.add_emod, mz_mul' h0, Int.add_zero, Int.emod_emod] at this
      exact this
    intro k hk
    rcases Nat.lt_or_ge k r with c | c
    · exact h1 k c
    · obtain rfl : k = r := by omega
      exact h0
  · exfalso
    obtain ⟨b, hb⟩ := hp.2 _ h0
    refine hn ⟨fun k => -b * x k, fun j hj => ?_⟩
    have h2 := hx j hj
    rw [sm] at h2
    rw [sm_congr (g := fun k => -b * (x k * u k j)) fun k _ => by grind, sm_mul, mz_sub]
    rw [show u r j - -b * (sm r fun k => x k * u k j) = b * ((sm r fun k => x k * u k j) + x r * u r j) + -((x r * b - 1) * u r j) by grind]
    exact mz_add (mz_mul h2 _) (mz_neg (mz_mul' (mz_sub.1 (by rw [hb, hp.one])) _))
theorem Ind.bound (hp : HasInv p) {r : Nat} {u : Nat → RowF} (h : Ind p n r u) : r ≤ n := h.le hp fun k _ => comb_uni (u k)
/-- free rows go on, till one is made of those ahead -/
theorem Ind.grow (hp : HasInv p) {u : Nat → RowF} : ∀ m r, n - r ≤ m → Ind p n r u → ∃ s, r ≤ s ∧ s ≤ n ∧ Ind p n s u ∧ Comb p n s u (u s) := by
  intro m
  induction m with
  | zero =>
    intro r hr h
    have hb := h.bound hp
    refine ⟨r, Nat.le_refl _, hb, h, Classical.byContradiction fun hn => ?_⟩
    have := (h.snoc hp hn).bound hp
    omega
  | succ m ih =>
    intro r hr h
    by_cases hc : Comb p n r u (u r)
    · exact ⟨r, Nat.le_refl _, h.bound hp, h, hc⟩
    · have h1 := h.snoc hp hc
      obtain ⟨s, h2, h3⟩ := ih (r + 1) (by omega) h1
      exact ⟨s, by omega, h3⟩
theorem Ind.nil (u : Nat → RowF) : Ind p n 0 u := fun _ _ _ hk => absurd hk (Nat.not_lt_zero _)

/-- x to the power s less some of less degree -/
def topS (p : Int) (s : Nat) (c : Nat → Int) : Ser p := .of p fun k => if k = s then 1 else if k < s then - c k else 0
theorem topS_low (s : Nat) (c : Nat → Int) : (topS p s c).low (s + 1) := fun k hk => by
  show (if k = s then 1 else if k < s then - c k else 0) % p = 0
  rw [if_neg (by omega), if_neg (by omega)]; simp
theorem topS_top (hp : 2 ≤ p) (s : Nat) (c : Nat → Int) : (topS p s c).co s = 1 := by
  show (if s = s then 1 else if s < s then - c s else 0) % p = 1
  rw [if_pos rfl]; exact mod_small (by omega) (by omega)
theorem topS_do (s : Nat) (c : Nat → Int) (v : RowF) : Eqv p n (doF n A (s + 1) (topS p s c).co v) fun i => itF n A s v i - sm s fun k => c k * itF n A k v i := fun i _ => by
  have e : doF n A (s + 1) (topS p s c).co v i % p = (sm (s + 1) fun k => (if k = s then 1 else if k < s then - c k else 0) * itF n A k v i) % p := sm_mod fun _ _ => by
    show (_ % p) * _ % p = _
    rw [mm_l]
  rw [e, sm, if_pos rfl, sm_congr (g := fun k => -(c k * itF n A k v i)) fun k hk => by rw [if_neg (by omega), if_pos hk]; grind, sm_neg]
  show _ = (itF n A s v i - sm s fun k => c k * itF n A k v i) % p
  exact congrArg (· % p) (by omega)
theorem topS_kil {s : Nat} {v : RowF} {c : Nat → Int} (h : ∀ i, i < n → itF n A s v i % p = (sm s fun k => c k * itF n A k v i) % p) : Kil p n A (topS p s c) v :=
  ⟨s + 1, topS_low s c, fun i hi => by rw [topS_do s c v i hi]; exact mz_sub.1 (h i hi)⟩
/-- who is of less degree than the free powers, and makes 0, is 0 -/
theorem Ind.kil {s : Nat} {v : RowF} (h : Ind p n s fun k => itF n A k v) {f : Ser p} (hf : f.low s) (hk : Kil p n A f v) : f = 0 := by
  have h1 := h f.co (hk.at_ hf)
  refine Ser.ext_ fun k => ?_
  rw [Ser.zero_co]
  rcases Nat.lt_or_ge k s with c | c
  · rw [← f.ok k]; exact h1 k c
  · exact hf k c
/-- a vector's own polynomial is there, of no higher degree than there are places -/
theorem own_exists (hp : HasInv p) (v : RowF) : ∃ s g, s ≤ n ∧ g.low (s + 1) ∧ g.co s = 1 ∧ Kil p n A g v ∧ ∀ f : Ser p, f.low s → Kil p n A f v → f = 0 := by
  obtain ⟨s, -, h1, h2, c, h3⟩ := Ind.grow hp n 0 (by omega) (Ind.nil (p := p) (n := n) fun k => itF n A k v)
  exact ⟨s, topS p s c, h1, topS_low s c, topS_top hp.1 s c, topS_kil h3, fun f hf hk => h2.kil hf hk⟩

/-! ### the degree that is enough for all -/
theorem Comb.more {r s : Nat} {u u' : Nat → RowF} {v : RowF} (h : Comb p n r u v) (hr : r ≤ s) (e : ∀ k, k < r → u' k = u k) : Comb p n s u' v :=
  h.trans fun k hk => by rw [← e k hk]; exact Comb.one u' (by omega)
theorem Comb.map {r : Nat} {u : Nat → RowF} {v : RowF} (h : Comb p n r u v) (k : ∀ i, i < r → Comb p n r u (mapF n A (u i))) : Comb p n r u (mapF n A v) := by
  obtain ⟨c, hc⟩ := h
  have e : Eqv p n (mapF n A v) (fun i => sm r fun j => c j * mapF n A (u j) i) := fun i _ => by
    rw [map_mod hc i]
    exact congrArg (· % p) (congrFun (map_sum r c u) i)
  exact (Comb.sum k c).congr e
theorem min_step (hp : HasInv p) : ∀ m r (B : Nat → RowF) (h : Ser p), n - r ≤ m → Ind p n r B → (∀ k, k < r → Comb p n r B (mapF n A (B k))) → h.low (r + 1) → h.co r = 1 → (∀ k, k < r → Kil p n A h (B k)) →
    ∃ (s : Nat) (g : Ser p), s ≤ n ∧ g.low (s + 1) ∧ g.co s = 1 ∧ ∀ v, Kil p n A g v := by
  intro m
  induction m with
  | zero =>
    intro r B h hr hB hinv hl h1 hk
    refine ⟨r, h, hB.bound hp, hl, h1, fun v => Kil.comb ⟨_, hl⟩ (w := B) (m := r) ?_ hk⟩
    refine Classical.byContradiction fun hn => ?_
    have h2 : Ind p n (r + 1) fun k => if k = r then v else B k := by
      refine Ind.snoc hp (fun x hx => hB x fun j hj => ?_) fun hc => hn ?_
      · rw [← hx j hj]
        exact congrArg (· % p) (sm_congr fun k hk => by rw [if_neg (by omega)])
      · rw [if_pos rfl] at hc
        exact hc.more (Nat.le_refl _) fun k hk => by rw [if_neg (by omega)]
    have := h2.bound hp
    omega
  | succ m ih =>
    intro r B h hr hB hinv hl h1 hk
    by_cases hall : ∀ v, Comb p n r B v
    · exact ⟨r, h, hB.bound hp, hl, h1, fun v => Kil.comb ⟨_, hl⟩ (hall v) hk⟩
    · obtain ⟨e, he⟩ := Classical.not_forall.1 hall
      let B' : Nat → RowF := fun k => if k < r then B k else itF n A (k - r) e
      have b1 : ∀ k, k < r → B' k = B k := fun k hk => if_pos hk
      have b2 : ∀ j, B' (r + j) = itF n A j e := fun j => by
        show (if r + j < r then _ else itF n A (r + j - r) e) = _
        rw [if_neg (by omega), Nat.add_sub_cancel_left]
      have hB' : Ind p n r B' := fun x hx => hB x fun j hj => by
        rw [← hx j hj]
        exact congrArg (· % p) (sm_congr fun k hk => by rw [b1 k hk])
      have hB1 : Ind p n (r + 1) B' := hB'.snoc hp fun hc => he (by
        rw [show B' r = e from b2 0] at hc
        exact hc.more (Nat.le_refl _) fun k hk => (b1 k hk).symm)
      obtain ⟨t, t1, t2, t3, c, t4⟩ := Ind.grow hp n (r + 1) (by omega) hB1
      obtain ⟨s, rfl⟩ : ∃ s, t = r + s := ⟨t - r, by omega⟩
      -- what x ^ s less the combination makes of e lies in the span of B
      let c' : Nat → Int := fun j => c (r + j)
      have hg : Eqv p n (doF n A (s + 1) (topS p s c').co e) fun i => sm r fun k => c k * B k i := fun i hi => by
        rw [topS_do s c' e i hi]
        have h4 := t4 i hi
        rw [b2 s] at h4
        have h5 : (sm (r + s) fun k => c k * B' k i) = (sm r fun k => c k * B k i) + sm s fun j => c (r + j) * itF n A j e i := by
          rw [sm_join r _ s, sm_congr (n := r) (g := fun k => c k * B k i) fun k hk => by rw [b1 k hk], sm_congr (n := s) (g := fun j => c (r + j) * itF n A j e i) fun j _ => by rw [b2 j]]
        rw [h5] at h4
        rw [Int.sub_emod, h4, ← Int.sub_emod]
        show ((sm r fun k => c k * B k i) + (sm s fun j => c (r + j) * itF n A j e i) - sm s fun k => c (r + k) * itF n A k e i) % p = (sm r fun k => c k * B k i) % p
        exact congrArg (· % p) (by omega)
      have hke : Kil p n A (h * topS p s c') e := ⟨r + 1 + (s + 1), (hl.mul (topS_low s c')).mono (by omega), fun i hi => by
        rw [do_mul hl (topS_low s c') e i hi, do_mod hg (fun _ _ => rfl) i hi]
        exact (Kil.sum ⟨_, hl⟩ c hk).at_ hl i hi⟩
      have htop := Ser.mul_top hl (topS_low (p := p) s c')
      refine ih (r + s) B' (h * topS p s c') (by omega) t3 (fun k hk' => ?_) htop.2 ?_ fun k hk' => ?_
      · rcases Nat.lt_or_ge k r with q | q
        · rw [b1 k q]
          exact (hinv k q).more (by omega) fun k hk => b1 k hk
        · obtain ⟨j, rfl⟩ : ∃ j, k = r + j := ⟨k - r, by omega⟩
          rw [b2 j]
          show Comb p n (r + s) B' (itF n A (j + 1) e)
          rw [← b2 (j + 1)]
          rcases Nat.lt_or_ge (j + 1) s with q' | q'
          · exact Comb.one B' (by omega)
          · rw [show j + 1 = s by omega]
            exact ⟨c, t4⟩
      · rw [htop.1, h1, topS_top hp.1, Int.mul_one]; exact hp.one
      · rcases Nat.lt_or_ge k r with q | q
        · rw [b1 k q]
          exact (hk k q).mul' ⟨_, topS_low s c'⟩
        · obtain ⟨j, rfl⟩ : ∃ j, k = r + j := ⟨k - r, by omega⟩
          rw [b2 j]
          exact hke.it j
/-- some polynomial of no higher degree than there are places makes 0 of all -/
theorem min_exists (hp : HasInv p) (A : Nat → RowF) : ∃ (s : Nat) (g : Ser p), s ≤ n ∧ g.low (s + 1) ∧ g.co s = 1 ∧ ∀ v, Kil p n A g v :=
  min_step hp n 0 (fun _ _ => 0) 1 (by omega) (Ind.nil _) (fun _ hk => absurd hk (Nat.not_lt_zero _)) (Ser.low_C 1) (by
    show (Ser.C p 1).co 0 = 1
    rw [Ser.C_co, if_pos rfl, hp.one]) fun _ hk => absurd hk (Nat.not_lt_zero _)
end Go.Proofs.YtijpeepdedfhoaaGreat
/- A matrix at a place: what is answered, and the polynomial that the answers follow (in plain Lean; nothing of a program). -/
namespace Go.Proofs.YtijpeepdedfhoaaGreat
variable {p : Int} {n : Nat} {A : Nat → RowF}

theorem sm_dec (f g : Nat → Int) : ∀ n, sm n (fun i => f i - g i) = sm n f - sm n g
  | 0 => rfl
  | n + 1 => by rw [sm, sm, sm, sm_dec f g n]; omega
/-- a polynomial's number at a place -/
def evF (d : Nat) (f : Nat → Int) (z : Int) : Int := sm d fun k => f k * z ^ k
/-- z w less what the matrix makes of w -/
def offF (n : Nat) (A : Nat → RowF) (z : Int) (w : RowF) : RowF := fun i => z * w i - mapF n A w i
/-- the sum of z^m A^(j-1-m) v -/
def geoF (n : Nat) (A : Nat → RowF) (z : Int) (v : RowF) : Nat → RowF
  | 0 => fun _ => 0
  | j + 1 => fun i => mapF n A (geoF n A z v j) i + z ^ j * v i
/-- .. of a polynomial -/
def gesF (n : Nat) (A : Nat → RowF) (d : Nat) (f : Nat → Int) (z : Int) (v : RowF) : RowF := fun i => sm d fun j => f j * geoF n A z v j i
theorem map_add (u v : RowF) (i : Nat) : mapF n A (fun i => u i + v i) i = mapF n A u i + mapF n A v i := by
  unfold mapF
  rw [← sm_add]
  exact sm_congr fun k _ => by rw [Int.mul_add]
theorem map_scl (c : Int) (v : RowF) (i : Nat) : mapF n A (fun i => c * v i) i = c * mapF n A v i := by
  unfold mapF
  rw [← sm_mul]
  exact sm_congr fun k _ => by grind
theorem map_sub (u v : RowF) (i : Nat) : mapF n A (fun i => u i - v i) i = mapF n A u i - mapF n A v i := by
  unfold mapF
  rw [← sm_dec]
  exact sm_congr fun k _ => by rw [Int.mul_sub]
theorem off_geo (z : Int) (v : RowF) : ∀ j i, offF n A z (geoF n A z v j) i = z ^ j * v i - itF n A j v i
  | 0, i => by
    unfold offF geoF
    have : mapF n A (fun _ => (0 : Int)) i = 0 := sm_zero fun k _ => by simp
    rw [this]
    show z * 0 - 0 = z ^ 0 * v i - v i
    simp
  | j + 1, i => by
    have ih := off_geo z v j
    have e : (fun k => mapF n A (geoF n A z v j) k + z ^ j * v k) = geoF n A z v (j + 1) := rfl
    have e1 : mapF n A (geoF n A z v (j + 1)) i = mapF n A (mapF n A (geoF n A z v j)) i + z ^ j * mapF n A v i := by
      rw [← e, map_add, map_scl]
    have e2 : mapF n A (offF n A z (geoF n A z v j)) i = z * mapF n A (geoF n A z v j) i - mapF n A (mapF n A (geoF n A z v j)) i := by
      unfold offF
      rw [map_sub (fun k => z * geoF n A z v j k) (mapF n A (geoF n A z v j)), map_scl]
    have e3 : mapF n A (offF n A z (geoF n A z v j)) i = z ^ j * mapF n A v i - itF n A (j + 1) v i := by
      rw [show offF n A z (geoF n A z v j) = fun k => z ^ j * v k - itF n A j v k from funext ih, map_sub (fun k => z ^ j * v k) (itF n A j v), map_scl]
      rfl
    show z * (mapF n A (geoF n A z v j) i + z ^ j * v i) - mapF n A (geoF n A z v (j + 1)) i = z ^ (j + 1) * v i - itF n A (j + 1) v i
    rw [e1]
    rw [e2] at e3
    rw [Int.pow_succ]
    grind
theorem geo_off (z : Int) (w : RowF) : ∀ j i, geoF n A z (offF n A z w) j i = z ^ j * w i - itF n A j w i
  | 0, i => by show (0 : Int) = z ^ 0 * w i - w i; simp
  | j + 1, i => by
    have ih := geo_off z w j
    show mapF n A (geoF n A z (offF n A z w) j) i + z ^ j * offF n A z w i = _
    rw [show geoF n A z (offF n A z w) j = fun k => z ^ j * w k - itF n A j w k from funext ih, map_sub (fun k => z ^ j * w k) (itF n A j w), map_scl]
    show z ^ j * mapF n A w i - itF n A (j + 1) w i + z ^ j * (z * w i - mapF n A w i) = _
    rw [Int.pow_succ]
    grind
theorem off_sum (z : Int) (d : Nat) (f : Nat → Int) (g : Nat → RowF) (i : Nat) : offF n A z (fun i => sm d fun j => f j * g j i) i = sm d fun j => f j * offF n A z (g j) i := by
  unfold offF
  rw [map_sum, ← sm_mul, ← sm_dec]
  exact sm_congr fun j _ => by grind
theorem off_ges (d : Nat) (f : Nat → Int) (z : Int) (v : RowF) (i : Nat) : offF n A z (gesF n A d f z v) i = evF d f z * v i - doF n A d f v i := by
  unfold gesF
  rw [off_sum, sm_congr (g := fun j => f j * z ^ j * v i - f j * itF n A j v i) fun j _ => by rw [off_geo, Int.mul_sub, Int.mul_assoc], sm_dec, sm_mul_r]
  rfl
theorem ges_off (d : Nat) (f : Nat → Int) (z : Int) (w : RowF) (i : Nat) : gesF n A d f z (offF n A z w) i = evF d f z * w i - doF n A d f w i := by
  unfold gesF
  rw [sm_congr (g := fun j => f j * z ^ j * w i - f j * itF n A j w i) fun j _ => by rw [geo_off, Int.mul_sub, Int.mul_assoc], sm_dec, sm_mul_r]
  rfl
theorem geo_mod {u v : RowF} (h : Eqv p n u v) (z : Int) : ∀ j, Eqv p n (geoF n A z u j) (geoF n A z v j)
  | 0 => Eqv.refl _
  | j + 1 => fun i hi => by
    show (mapF n A (geoF n A z u j) i + z ^ j * u i) % p = (mapF n A (geoF n A z v j) i + z ^ j * v i) % p
    rw [Int.add_emod, map_mod (geo_mod h z j), Int.mul_emod, h i hi, ← Int.mul_emod, ← Int.add_emod]
theorem ges_mod {u v : RowF} (h : Eqv p n u v) (d : Nat) (f : Nat → Int) (z : Int) : Eqv p n (gesF n A d f z u) (gesF n A d f z v) := fun i hi =>
  sm_mod fun j _ => by rw [Int.mul_emod, geo_mod h z j i hi, ← Int.mul_emod]
/-- where z w less what the matrix makes of w is v -/
theorem ges_eq {z : Int} {w v : RowF} (h : Eqv p n (offF n A z w) v) {d : Nat} {f : Nat → Int} (hk : ∀ i, i < n → doF n A d f w i % p = 0) : ∀ i, i < n → gesF n A d f z v i % p = evF d f z * w i % p := fun i hi => by
  rw [← ges_mod h d f z i hi, ges_off, Int.sub_emod, hk i hi]
  simp
/-- where the polynomial makes 0 of v and isn't 0 at z there is an answer -/
theorem off_has (hp : HasInv p) {z : Int} {v : RowF} {d : Nat} {f : Nat → Int} (hk : ∀ i, i < n → doF n A d f v i % p = 0) (hz : evF d f z % p ≠ 0) : ∃ w : RowF, Eqv p n (offF n A z w) v := by
  obtain ⟨c, hc⟩ := hp.2 _ hz
  refine ⟨fun i => c * gesF n A d f z v i, fun i hi => ?_⟩
  have e : offF n A z (fun i => c * gesF n A d f z v i) i = c * offF n A z (gesF n A d f z v) i := by
    unfold offF
    rw [map_scl]
    grind
  rw [e, off_ges, Int.mul_sub, Int.sub_emod, mz_mul (hk i hi), Int.sub_zero, Int.emod_emod, ← Int.mul_assoc, Int.mul_comm c, Int.mul_emod, hc]
  simp

/-- a sum's terms by the power of z -/
theorem geo_sum (z : Int) (v : RowF) : ∀ j i, geoF n A z v j i = sm j fun m => z ^ m * itF n A (j - 1 - m) v i
  | 0, _ => rfl
  | j + 1, i => by
    show mapF n A (geoF n A z v j) i + z ^ j * v i = (sm j fun m => z ^ m * itF n A (j + 1 - 1 - m) v i) + z ^ j * itF n A (j + 1 - 1 - j) v i
    rw [show geoF n A z v j = fun i => sm j fun m => z ^ m * itF n A (j - 1 - m) v i from funext (geo_sum z v j), map_sum, show j + 1 - 1 - j = 0 by omega]
    congr 1
    exact sm_congr fun m hm => by rw [show j + 1 - 1 - m = j - 1 - m + 1 by omega]; rfl
/-- the numbers of u times the powers -/
def dotS (n : Nat) (A : Nat → RowF) (u v : RowF) (k : Nat) : Int := sm n fun i => u i * itF n A k v i
/-- the polynomial that the answers follow -/
def folF (d : Nat) (f s : Nat → Int) (m : Nat) : Int := sm (d - (m + 1)) fun t => f (m + 1 + t) * s t
theorem fol_sum (z : Int) (f s : Nat → Int) : ∀ d, (sm d fun j => f j * sm j fun m => z ^ m * s (j - 1 - m)) = sm (d - 1) fun m => z ^ m * folF d f s m
  | 0 => rfl
  | 1 => by simp [sm]
  | d + 2 => by
    rw [sm_head]
    have e0 : (f 0 * sm 0 fun m => z ^ m * s (0 - 1 - m)) = 0 := by simp [sm]
    rw [e0, Int.zero_add, sm_congr (g := fun i => sm (i + 1) fun m => f (i + 1) * (z ^ m * s (i - m))) fun i _ => by rw [← sm_mul]; exact sm_congr fun m _ => by rw [show i + 1 - 1 - m = i - m by omega], sm_tri (fun i m => f (i + 1) * (z ^ m * s (i - m))) d]
    show _ = sm (d + 1) fun m => z ^ m * folF (d + 2) f s m
    refine sm_congr fun m hm => ?_
    unfold folF
    rw [← sm_mul, show d + 2 - (m + 1) = d + 1 - m by omega]
    exact sm_congr fun k _ => by rw [show m + k - m = k by omega, show m + k + 1 = m + 1 + k by omega]; grind
theorem dot_ges (u v : RowF) (d : Nat) (f : Nat → Int) (z : Int) : (sm n fun i => u i * gesF n A d f z v i) = evF (d - 1) (folF d f (dotS n A u v)) z := by
  unfold gesF evF
  rw [sm_congr (g := fun i => sm d fun j => u i * (f j * geoF n A z v j i)) fun i _ => by rw [sm_mul], sm_comm]
  rw [sm_congr (g := fun j => f j * sm j fun m => z ^ m * dotS n A u v (j - 1 - m)) fun j _ => ?_, fol_sum]
  · exact sm_congr fun m _ => Int.mul_comm _ _
  · rw [sm_congr (g := fun i => f j * (u i * geoF n A z v j i)) fun i _ => by grind, sm_mul]
    congr 1
    rw [sm_congr (g := fun i => sm j fun m => z ^ m * (u i * itF n A (j - 1 - m) v i)) fun i _ => by rw [geo_sum, ← sm_mul]; exact sm_congr fun m _ => by grind, sm_comm]
    exact sm_congr fun m _ => by rw [sm_mul]; rfl
/-- what is answered, times u, times the polynomial at z, is what the answers follow -/
theorem ans_fol {z : Int} {u w v : RowF} (h : Eqv p n (offF n A z w) v) {d : Nat} {f : Nat → Int} (hk : ∀ i, i < n → doF n A d f w i % p = 0) : (sm n fun i => u i * w i) * evF d f z % p = evF (d - 1) (folF d f (dotS n A u v)) z % p := by
  rw [← dot_ges]
  have := ges_eq h hk
  rw [← sm_mul_r]
  exact sm_mod fun i hi => by rw [Int.mul_emod (u i), this i hi, ← Int.mul_emod]; grind
end Go.Proofs.YtijpeepdedfhoaaGreat
/- Rings of an order (in plain Lean; nothing of a program). -/
namespace Go.Proofs.YtijpeepdedfhoaaGreat

/-- a step of an order, so many times -/
def itL (p : List Int) : Nat → Nat → Nat
  | 0, x => x
  | k + 1, x => (p.getD (itL p k x) 0).toNat
theorem itL_succ (p : List Int) (k x : Nat) : itL p (k + 1) x = (p.getD (itL p k x) 0).toNat := rfl
theorem itL_add (p : List Int) (i k x : Nat) : itL p (i + k) x = itL p i (itL p k x) := by
  induction i with
  | zero => rw [Nat.zero_add]; rfl
  | succ i ih => rw [show i + 1 + k = (i + k) + 1 by omega, itL_succ, itL_succ, ih]
variable {n : Nat} {p : List Int}
theorem Ord.it_lt (h : Ord n p) {x : Nat} (hx : x < n) (k : Nat) : itL p k x < n := by
  induction k with
  | zero => exact hx
  | succ k ih => have := h.get ih; rw [itL_succ]; omega
theorem Ord.step_inj (h : Ord n p) {x y : Nat} (hx : x < n) (hy : y < n) (e : (p.getD x 0).toNat = (p.getD y 0).toNat) : x = y := by
  have h1 := h.get hx
  have h2 := h.get hy
  exact h.inj hx hy (by omega)
theorem Ord.it_inj (h : Ord n p) {x y : Nat} (hx : x < n) (hy : y < n) (k : Nat) (e : itL p k x = itL p k y) : x = y := by
  induction k with
  | zero => exact e
  | succ k ih => exact ih (h.step_inj (h.it_lt hx k) (h.it_lt hy k) e)
/-- each number comes back -/
theorem Ord.comes_back (h : Ord n p) {x : Nat} (hx : x < n) : ∃ r, 1 ≤ r ∧ r ≤ n ∧ itL p r x = x := by
  by_cases hn : ((List.range (n + 1)).map fun k => ((itL p k x : Nat) : Int)).Nodup
  · exfalso
    have := nodup_len (r := upL n) hn fun y hy => by
      obtain ⟨k, _, rfl⟩ := List.mem_map.1 hy
      have := h.it_lt hx k
      exact upL_mem.2 (by omega)
    rw [upL_len] at this
    simp at this
    omega
  · rw [List.Nodup, List.pairwise_map, List.pairwise_iff_getElem] at hn
    simp only [List.length_range, List.getElem_range, Classical.not_forall] at hn
    obtain ⟨i, k, hi, hk, hik, e⟩ := hn
    have e' : itL p i x = itL p k x := by
      have := Classical.not_not.1 e
      omega
    refine ⟨k - i, by omega, by omega, ?_⟩
    rw [show k = i + (k - i) by omega, itL_add] at e'
    exact (h.it_inj hx (h.it_lt hx _) i e').symm
/-- how many steps a ring has -/
def perL (p : List Int) (x : Nat) : Nat := ((List.range p.length).findIdx? fun k => itL p (k + 1) x == x).getD 0 + 1
theorem Ord.per (h : Ord n p) {x : Nat} (hx : x < n) : 1 ≤ perL p x ∧ perL p x ≤ n ∧ itL p (perL p x) x = x ∧ ∀ k, 1 ≤ k → k < perL p x → itL p k x ≠ x := by
  obtain ⟨r, h1, h2, h3⟩ := h.comes_back hx
  have hl : p.length = n := h.len
  cases hf : (List.range p.length).findIdx? fun k => itL p (k + 1) x == x with
  | none =>
    rw [List.findIdx?_eq_none_iff] at hf
    have := hf (r - 1) (List.mem_range.2 (by omega))
    rw [show r - 1 + 1 = r by omega] at this
    simp [h3] at this
  | some k =>
    rw [List.findIdx?_eq_some_iff_getElem] at hf
    obtain ⟨hk, h4, h5⟩ := hf
    simp only [List.length_range] at hk
    simp only [List.getElem_range, beq_iff_eq] at h4
    unfold perL
    have e : ((List.range p.length).findIdx? fun k => itL p (k + 1) x == x) = some k := by
      rw [List.findIdx?_eq_some_iff_getElem]
      exact ⟨by simpa using hk, by simpa using h4, h5⟩
    rw [e]
    simp only [Option.getD_some]
    refine ⟨by omega, by omega, h4, fun j hj1 hj2 => ?_⟩
    have := h5 (j - 1) (by omega)
    simp only [List.getElem_range, show j - 1 + 1 = j by omega] at this
    simpa using this
/-- a number's ring, from it on -/
def ringL (p : List Int) (x : Nat) : List Int := tab (perL p x) fun k => (itL p k x : Int)
theorem ringL_len (p : List Int) (x : Nat) : (ringL p x).length = perL p x := tab_len _ _
theorem ringL_get {x k : Nat} (h : k < perL p x) : (ringL p x).getD k 0 = itL p k x := tab_get _ h
theorem ringL_mem {x : Nat} {y : Int} : y ∈ ringL p x ↔ ∃ k, k < perL p x ∧ y = itL p k x := by
  simp only [ringL, tab, List.mem_map, List.mem_range]
  exact ⟨fun ⟨k, h1, h2⟩ => ⟨k, h1, h2.symm⟩, fun ⟨k, h1, h2⟩ => ⟨k, h1, h2.symm⟩⟩
/-- so many rounds, and so many steps -/
theorem Ord.it_mod (h : Ord n p) {x : Nat} (hx : x < n) (k : Nat) : itL p k x = itL p (k % perL p x) x := by
  obtain ⟨h1, _, h3, _⟩ := h.per hx
  have hr : ∀ q, itL p (q * perL p x) x = x := fun q => by
    induction q with
    | zero => rw [Nat.zero_mul]; rfl
    | succ q ih => rw [Nat.succ_mul, itL_add, h3, ih]
  conv => lhs; rw [← Nat.mod_add_div k (perL p x), Nat.mul_comm, itL_add, hr]
theorem Ord.ring_mem (h : Ord n p) {x : Nat} (hx : x < n) (k : Nat) : (itL p k x : Int) ∈ ringL p x :=
  ringL_mem.2 ⟨k % perL p x, Nat.mod_lt _ (h.per hx).1, by rw [← h.it_mod hx]⟩
/-- who is in whose ring -/
theorem Ord.ring_back (h : Ord n p) {x y : Nat} (hx : x < n) (hy : (y : Int) ∈ ringL p x) : ∃ k, itL p k y = x := by
  obtain ⟨k, hk, e⟩ := ringL_mem.1 hy
  obtain ⟨_, _, h3, _⟩ := h.per hx
  have e' : y = itL p k x := by omega
  exact ⟨perL p x - k, by rw [e', ← itL_add, show perL p x - k + k = perL p x by omega, h3]⟩
theorem Ord.ring_nodup (h : Ord n p) {x : Nat} (hx : x < n) : (ringL p x).Nodup := by
  obtain ⟨_, _, _, h4⟩ := h.per hx
  unfold ringL tab List.Nodup
  rw [List.pairwise_map, List.pairwise_iff_getElem]
  simp only [List.length_range, List.getElem_range]
  intro i k _ hk hik e
  have e' : itL p i x = itL p (i + (k - i)) x := by rw [show i + (k - i) = k by omega]; omega
  rw [itL_add] at e'
  exact h4 (k - i) (by omega) (by omega) (h.it_inj hx (h.it_lt hx _) i e').symm
/-- is a number the least of its ring? -/
def leastB (p : List Int) (x : Nat) : Bool := (ringL p x).all fun y => decide ((x : Int) ≤ y)
theorem leastB_true {x : Nat} (h : leastB p x = true) {y : Int} (hy : y ∈ ringL p x) : (x : Int) ≤ y := by
  unfold leastB at h
  rw [List.all_eq_true] at h
  simpa using h y hy
/-- the rings of the numbers below one -/
def ringsTo (p : List Int) (n : Nat) : List (List Int) := ((List.range n).filter fun x => leastB p x).map (ringL p)
/-- the rings of an order -/
def ringsL (p : List Int) : List (List Int) := ringsTo p p.length
theorem ringsTo_succ (p : List Int) (n : Nat) : ringsTo p (n + 1) = if leastB p n then ringsTo p n ++ [ringL p n] else ringsTo p n := by
  unfold ringsTo
  rw [List.range_succ, List.filter_append]
  cases h : leastB p n <;> simp [h]
theorem ringsTo_mem {k : Nat} {l : List Int} : l ∈ ringsTo p k ↔ ∃ x, x < k ∧ leastB p x = true ∧ l = ringL p x := by
  simp only [ringsTo, List.mem_map, List.mem_filter, List.mem_range]
  exact ⟨fun ⟨x, ⟨h1, h2⟩, h3⟩ => ⟨x, h1, h2, h3.symm⟩, fun ⟨x, h1, h2, h3⟩ => ⟨x, ⟨h1, h2⟩, h3.symm⟩⟩
/-- each number's ring has a least one -/
theorem Ord.has_least (h : Ord n p) : ∀ m x : Nat, x ≤ m → x < n → ∃ s, s < n ∧ leastB p s = true ∧ (x : Int) ∈ ringL p s := by
  intro m
  induction m with
  | zero =>
    intro x hx hn
    obtain rfl : x = 0 := by omega
    refine ⟨0, hn, ?_, h.ring_mem hn 0⟩
    unfold leastB
    rw [List.all_eq_true]
    intro y hy
    obtain ⟨k, _, rfl⟩ := ringL_mem.1 hy
    simp
  | succ m ih =>
    intro x hx hn
    cases hl : leastB p x with
    | true => exact ⟨x, hn, hl, h.ring_mem hn 0⟩
    | false =>
      unfold leastB at hl
      rw [List.all_eq_false] at hl
      obtain ⟨y, hy, hlt⟩ := hl
      obtain ⟨k, hk, rfl⟩ := ringL_mem.1 hy
      have hlt : itL p k x < x := by simpa using hlt
      obtain ⟨s, h1, h2, h3⟩ := ih (itL p k x) (by omega) (h.it_lt hn k)
      refine ⟨s, h1, h2, ?_⟩
      obtain ⟨j, hj⟩ := h.ring_back hn hy
      obtain ⟨i, _, hi⟩ := ringL_mem.1 h3
      have hi : itL p k x = itL p i s := by omega
      have e : x = itL p (j + i) s := by rw [itL_add, ← hi, hj]
      rw [e]
      exact h.ring_mem h1 _
theorem Ord.rings_apart (h : Ord n p) {s t : Nat} (hs : s < n) (ht : t < n) (ls : leastB p s = true) (lt : leastB p t = true) {y : Int} (h1 : y ∈ ringL p s) (h2 : y ∈ ringL p t) : s = t := by
  obtain ⟨i, _, e1⟩ := ringL_mem.1 h1
  obtain ⟨k, _, e2⟩ := ringL_mem.1 h2
  have e : itL p i s = itL p k t := by omega
  obtain ⟨a, ha⟩ := h.ring_back hs (y := itL p i s) (by rw [← e1]; exact h1)
  obtain ⟨b, hb⟩ := h.ring_back ht (y := itL p k t) (by rw [← e2]; exact h2)
  have m1 := leastB_true lt (y := s) (by
    have := h.ring_mem ht (a + k)
    rwa [itL_add, ← e, ha] at this)
  have m2 := leastB_true ls (y := t) (by
    have := h.ring_mem hs (b + i)
    rwa [itL_add, e, hb] at this)
  omega
/-- all rings, one behind the other, have each number once -/
theorem Ord.rings_flat (h : Ord n p) : Ord n (ringsL p).flatten := by
  have hl : p.length = n := h.len
  refine Ord.of_perm (nodup_sub (upL_nodup n) (fun x hx => ?_) ?_)
  · obtain ⟨h1, h2⟩ := upL_mem.1 hx
    obtain ⟨s, hs, ls, hm⟩ := h.has_least x.toNat x.toNat (Nat.le_refl _) (by omega)
    rw [Int.toNat_of_nonneg h1] at hm
    exact List.mem_flatten.2 ⟨_, ringsTo_mem.2 ⟨s, by omega, ls, rfl⟩, hm⟩
  · rw [upL_len]
    have hn : (ringsL p).flatten.Nodup := by
      unfold ringsL
      rw [hl]
      have : ∀ k, k ≤ n → (ringsTo p k).flatten.Nodup := fun k => by
        induction k with
        | zero => intro _; simp [ringsTo]
        | succ k ih =>
          intro hk
          rw [ringsTo_succ]
          split
          case isTrue hlk =>
            rw [List.flatten_append, List.nodup_append]
            refine ⟨ih (by omega), by simpa using h.ring_nodup (by omega), fun a ha b hb e => ?_⟩
            subst e
            obtain ⟨l, hl1, hl2⟩ := List.mem_flatten.1 ha
            obtain ⟨x, hx, lx, rfl⟩ := ringsTo_mem.1 hl1
            have hb' : a ∈ ringL p k := by simpa using hb
            have := h.rings_apart (by omega) (by omega) lx hlk hl2 hb'
            omega
          case isFalse => exact ih (by omega)
      exact this n (Nat.le_refl _)
    have := nodup_len (r := upL n) hn fun y hy => by
      obtain ⟨l, hl1, hl2⟩ := List.mem_flatten.1 hy
      obtain ⟨x, hx, _, rfl⟩ := ringsTo_mem.1 hl1
      obtain ⟨k, _, rfl⟩ := ringL_mem.1 hl2
      have := h.it_lt (x := x) (by omega) k
      exact upL_mem.2 (by omega)
    rwa [upL_len] at this
/-- a step along a ring -/
theorem Ord.ring_step (h : Ord n p) {x : Nat} (hx : x < n) (k : Nat) : p.getD (itL p k x) 0 = itL p ((k + 1) % perL p x) x := by
  rw [← h.it_mod hx, itL_succ, Int.toNat_of_nonneg (h.get (h.it_lt hx k)).1]
end Go.Proofs.YtijpeepdedfhoaaGreat
