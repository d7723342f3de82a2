/- What the texts Ref06c, CupO, SolM, SolL, KerM, FoM, ShpN show, in one text. -/
import Derived.Test.YtnfnommiabalfaaBun12
import Derived.Test.YtnfnommiabalfaaBun13
import Derived.Test.YtnfnommiabalfaaBun06
import Derived.StillTailTactics
import Derived.Test.YtnfnommiabalfaaBun10
import Derived.Test.YtnfnommiabalfaaBun01
import Derived.Test.YtnfnommiabalfaaBun15
import Derived.Test.YtnfnommiabalfaaBun07
import Derived.Test.YtnfnommiabalfaaBun16
/- The document's own answer of layer 6 that puts a matrix's rows in another order: Rows. -/
namespace Go.Proofs.Ytnfnommiabalfaa
open Go.RowKit Go.Maps

/-- a matrix's rows, in another order -/
def rowsL (p : List Int) (c : Nat) (xs : List Int) : List Int := grid p.length c fun i k => xs.getD ((p.getD i 0).toNat * c + k) 0
theorem rowsL_len (p : List Int) (c : Nat) (xs : List Int) : (rowsL p c xs).length = p.length * c := grid_len _ _ _
theorem tab_add {t d : Nat} {G : Nat → Int} {l : List Int} (hl : l.length = d) (h : ∀ j, j < d → l.getD j 0 = G (t + j)) : tab (t + d) G = tab t G ++ l := by
  symm
  refine tab_of (by rw [List.length_append, tab_len, hl]) fun k hk => ?_
  simp only [List.getD, List.getElem?_append, tab_len]
  split
  · rename_i h1
    exact tab_get G h1
  · have := h (k - t) (by omega)
    rwa [show t + (k - t) = k by omega] at this
/-- a slice's numbers as cells that are appended -/
theorem ints_news {k : IntKind} {w : World} {ad : Addr} {m c : Nat} {l : List Int} (h : Ints k w (.slice (some ad) m c) l) : ∀ j u, (l.map (Value.int k))[j]? = some u → w.cell? (ad.add j) = some u := by
  intro j u hj
  obtain ⟨a, cap, e, _, _, h3⟩ := h
  injection e with e1 _ _
  subst e1
  have hjl : j < l.length := by
    rcases Nat.lt_or_ge j l.length with h | h
    · exact h
    · rw [List.getElem?_eq_none (by simpa using h)] at hj; cases hj
  obtain ⟨b, off, e, hb, hcell⟩ := h3 (by omega)
  injection e with e
  subst e
  rw [show ((⟨b, off, none⟩ : Addr).add j) = ⟨b, off + j, none⟩ from Go.WideShapes.add_plain _ _ _, hcell j hjl]
  rw [List.getElem?_map, List.getElem?_eq_getElem hjl] at hj
  simp only [Option.map_some, Option.some.injEq] at hj
  rw [← hj]
  simp [List.getD, List.getElem?_eq_getElem hjl]
theorem ints_one {k : IntKind} {l : List Int} : ∀ u ∈ l.map (Value.int k), u.oneCell' = true := by
  intro u hu
  obtain ⟨q, _, rfl⟩ := List.mem_map.1 hu
  rfl
/-- numbers are appended, and the box told -/
theorem Bld.more {w0 w w' : World} {h base : Nat} {r c : Int} {rv v' : Value} {t t' : Nat} {G : Nat → Int} (b : Bld w0 w h base r c rv t G) (hown : w'.ownsRow base 22 1 v' t' ((tab t' G).map (Value.int .u64))) (hg : w.grownBy w' rv.ownBlock) :
    Bld w0 (w'.setCell ⟨h, 2, none⟩ v') h base r c v' t' G := by
  have hne : rv.ownBlock ≠ some h := by
    rcases ownsRow_blk b.own b.box (by decide) with e | e
    · rw [e]; simp
    · exact e
  have hb := b.box.grown hg hne
  have hne2 : v'.ownBlock ≠ some h := by
    rcases ownsRow_blk hown hb (by decide) with e | e
    · rw [e]; simp
    · exact e
  exact ⟨hb.set_ 2 v', hown.kept (setCell_grown _ _ _) (.inr hne2), (b.ext.grown hg fun k e => Nat.le_trans b.hb (b.own.lt k e).1).setCell b.hh _, b.hb, b.hh⟩

end Go.Proofs.Ytnfnommiabalfaa
/- Right matrices over a field: rows in another order, rows again, products, rows that are scaled or alike, as the laws of layer 7 ask for them (in plain Lean; nothing of a program). -/
namespace Go.Proofs.Ytnfnommiabalfaa
variable {p : Int} {m n k q : Nat} {xs ys o : List Int}

theorem rowOf_congr {xs ys : List Int} {i i' : Nat} (h : ∀ j, j < n → ys.getD (i * n + j) 0 = xs.getD (i' * n + j) 0) : rowOf n ys i = rowOf n xs i' := tab_congr h
theorem rowsL_rng (hp : 2 ≤ p) (hx : Rng p xs) : Rng p (rowsL o n xs) := grid_rng fun _ _ _ _ => hx.getD hp _
theorem rowOf_rows {i : Nat} (ho : Ord m o) (hi : i < m) : rowOf n (rowsL o n xs) i = rowOf n xs (o.getD i 0).toNat :=
  rowOf_congr fun j hj => by rw [rowsL, grid_get _ (by rw [ho.len]; exact hi) hj]
theorem rank_rows (hp : 2 ≤ p) (hf : Fld p) (hx : Rng p xs) (ho : Ord m o) : (takeL p m n (rowsL o n xs)).U.length = (takeL p m n xs).U.length := by
  have h1 := takeL_ok (m := m) (n := n) hp hf hx
  have h2 := takeL_some (m := m) (n := n) hp hf (rowsL_rng (o := o) (n := n) hp hx)
  rw [takeE_congr (R' := fun i => rowOf n xs (o.getD i 0).toNat) m fun i hi => rowOf_rows ho hi] at h2
  exact rank_order (hf.has hp) ho h1 (takeE_ok hp m (fun i _ => rowOf_rng hp hx _) h2)
theorem rowsF_congr {R R' : Nat → List Int} (h : ∀ i, i < n → R i = R' i) : rowsF n R = rowsF n R' := by
  unfold rowsF
  exact List.map_congr_left fun i hi => by rw [h i (List.mem_range.1 hi)]
theorem det_rows (ho : Ord n o) : detF n (atF n (rowsL o n xs)) = sgnL o * detF n (atF n xs) := by
  rw [← rowsF_det, ← rowsF_det, ← det_order ho]
  exact congrArg _ (rowsF_congr fun i hi => rowOf_rows ho hi)
theorem prof_again (hp : 2 ≤ p) (hf : Fld p) (hx : Rng p xs) (hl : xs.length = m * n) : profZ p (2 * m) n (xs ++ xs) = profZ p m n xs := by
  have hle : ∀ i j, i < m → j < n → i * n + j < m * n := fun i j hi hj => at_lt hi hj
  have h0 : ∀ i, i < m → rowOf n (xs ++ xs) i = rowOf n xs i := fun i hi => rowOf_congr fun j hj => by
    have := hle i j hi hj
    simp only [List.getD]
    rw [List.getElem?_append_left (by omega)]
  have h1 : ∀ i, i < m → rowOf n (xs ++ xs) (m + i) = rowOf n xs i := fun i hi => rowOf_congr fun j hj => by
    have e : (m + i) * n + j = m * n + (i * n + j) := by rw [Nat.add_mul, Nat.add_assoc]
    simp only [List.getD]
    rw [e, List.getElem?_append_right (by omega), hl, Nat.add_sub_cancel_left]
  obtain ⟨s, hs, hr⟩ := takeE_again (hf.has hp) (fun i _ => rowOf_rng hp hx i) h0 h1 (takeL_some (m := m) (n := n) hp hf hx) m (Nat.le_refl _)
  have h2 := takeL_some (m := 2 * m) (n := n) hp hf (rng_app hx hx)
  rw [show 2 * m = m + m by omega, hs] at h2
  injection h2 with h2
  unfold profZ
  rw [show 2 * m = m + m by omega, ← h2, hr]

/-! ### products -/
theorem Bas.congr {r : Nat} {M M' u : Nat → RowF} (B : Bas p n m r M u) (h : ∀ i j, i < m → j < n → M' i j % p = M i j % p) : Bas p n m r M' u :=
  ⟨B.ind, fun i hi => (B.gen i hi).congr fun j hj => h i j hi hj, fun k hk => (B.own k hk).trans fun i hi => (Comb.one M' hi).congr fun j hj => (h i j hi hj).symm⟩
theorem lf_mul {i j : Nat} (hi : i < m) (hj : j < q) : lf (rowOf q (mulL p m k q xs ys) i) j % p = mulF k (fun i => lf (rowOf k xs i)) (fun l => lf (rowOf q ys l)) i j % p := by
  rw [lf_row hj]
  show (mulL p m k q xs ys).getD (i * q + j) 0 % p = _
  rw [mulL, grid_get _ hi hj]
  unfold dv mulF
  rw [Int.emod_emod]
  exact congrArg (· % p) (sm_congr fun l hl => by
    show atF k xs i l * atF q ys l j = lf (rowOf k xs i) l * lf (rowOf q ys l) j
    rw [lf_row hl, lf_row hj])
theorem rank_mul (hp : 2 ≤ p) (hf : Fld p) (hx : Rng p xs) (hy : Rng p ys) :
    (takeL p m q (mulL p m k q xs ys)).U.length ≤ (takeL p m k xs).U.length ∧ (takeL p m q (mulL p m k q xs ys)).U.length ≤ (takeL p k q ys).U.length ∧
    (takeL p m k xs).U.length + (takeL p k q ys).U.length ≤ (takeL p m q (mulL p m k q xs ys)).U.length + k := by
  have hi := hf.has hp
  have hA := takeL_ok (m := m) (n := k) hp hf hx
  have A := hA.bas hi
  have B := (takeL_ok (m := k) (n := q) hp hf hy).bas hi
  have D := ((takeL_ok (m := m) (n := q) hp hf (mulL_rng hp m k q xs ys)).bas hi).congr (M' := mulF k (fun i => lf (rowOf k xs i)) fun l => lf (rowOf q ys l)) fun i j h1 h2 => (lf_mul h1 h2).symm
  exact ⟨Bas.mul_left hi D A, Bas.mul_right hi D B, rank_sylvester hi hA D B⟩
theorem detF_mod : ∀ (n : Nat) {A B : Nat → Nat → Int}, (∀ i j, i < n → j < n → A i j % p = B i j % p) → detF n A % p = detF n B % p
  | 0, _, _, _ => rfl
  | n + 1, A, B, h => by
    rw [detF_succ, detF_succ]
    refine sm_mod fun k hk => ?_
    have h1 := h 0 k (by omega) hk
    have h2 := detF_mod n (A := fun i j => A (i + 1) (skp k j)) (B := fun i j => B (i + 1) (skp k j)) fun i j hi hj => h _ _ (by omega) (skp_lt hj)
    rw [← mm_r, h2, mm_r, Int.mul_assoc, Int.mul_assoc, ← mm_r (sg k), ← mm_l (A 0 k), h1, mm_l, mm_r]
theorem det_product (hp : 2 ≤ p) (hf : Fld p) (hx : Rng p xs) : detF n (atF n (mulL p n n n xs ys)) % p = (detF n (atF n xs) % p) * (detF n (atF n ys) % p) % p := by
  have hi := hf.has hp
  have h := takeL_ok (m := n) (n := n) hp hf hx
  have h1 := det_mul hi h (B := rowOf n ys)
  have h2 := h.det hi
  rw [rowsF_det] at h1 h2
  have e : (rowsF n (rowOf n xs)).map (mulR n fun l => lf (rowOf n ys l)) = (List.range n).map fun i => mulR n (fun l => lf (rowOf n ys l)) (lf (rowOf n xs i)) := by
    unfold rowsF
    rw [List.map_map]; rfl
  rw [e] at h1
  have e2 : detF n (atF n (mulL p n n n xs ys)) % p = detN n ((List.range n).map fun i => mulR n (fun l => lf (rowOf n ys l)) (lf (rowOf n xs i))) % p := detF_mod n fun i j h3 h4 => by
    have := lf_mul (p := p) (k := n) (xs := xs) (ys := ys) h3 h4
    rw [lf_row h4] at this
    exact this
  rw [mm_r, e2, h1, h2, mm_l]
theorem rowOf_set {i : Nat} {x : Int → Int} (zs : List Int) (h1 : ∀ a b, a < n → b < n → zs.getD (a * n + b) 0 = if a = i then x (xs.getD (i * n + b) 0) else xs.getD (a * n + b) 0) : (∀ a, a < n → a ≠ i → rowOf n zs a = rowOf n xs a) ∧ (i < n → ∀ b, b < n → (rowOf n zs i).getD b 0 = x ((rowOf n xs i).getD b 0)) :=
  ⟨fun a ha hne => rowOf_congr fun b hb => by rw [h1 a b ha hb, if_neg hne], fun hi b hb => by
    have e1 : (rowOf n zs i).getD b 0 = zs.getD (i * n + b) 0 := tab_get _ hb
    have e2 : (rowOf n xs i).getD b 0 = xs.getD (i * n + b) 0 := tab_get _ hb
    rw [e1, e2, h1 i b hi hb, if_pos rfl]⟩
theorem det_scaled {i : Nat} {c : Int} {zs : List Int} (hi : i < n) (h : ∀ a b, a < n → b < n → zs.getD (a * n + b) 0 = if a = i then xs.getD (i * n + b) 0 * c % p else xs.getD (a * n + b) 0) : detF n (atF n zs) % p = detF n (atF n xs) % p * c % p := by
  obtain ⟨h1, h2⟩ := rowOf_set (x := fun y => y * c % p) zs h
  rw [← rowsF_det, ← rowsF_det, det_scale hi h1 (x := c) fun b hb => by rw [h2 hi b hb, Int.emod_emod], mm_l]
theorem det_twice {i j : Nat} {zs : List Int} (hi : i < n) (hj : j < n) (hij : i ≠ j) (h : ∀ b, b < n → zs.getD (i * n + b) 0 = zs.getD (j * n + b) 0) : detF n (atF n zs) = 0 := by
  rw [← rowsF_det]
  exact det_alike hi hj hij (rowOf_congr h)
end Go.Proofs.Ytnfnommiabalfaa
/- Square systems over a field; the rows that count, and what is made of them; solutions that are 0 outside a matrix's own columns (in plain Lean; nothing of a program). -/
namespace Go.Proofs.Ytnfnommiabalfaa
variable {p : Int} {m n r : Nat}

/-- what is taken to 0 by free rows, as many as columns, is 0 -/
theorem Ind.inj (hp : HasInv p) {A : Nat → RowF} (hA : Ind p r r A) {y : Nat → Int} (hy : ∀ i, i < r → (sm r fun k => A i k * y k) % p = 0) : ∀ k, k < r → y k % p = 0 := by
  intro c hc
  refine Classical.byContradiction fun hne => ?_
  obtain ⟨b, hb⟩ := hp.2 (y c) hne
  cases r with
  | zero => omega
  | succ r =>
    let e : Nat → RowF := fun k j => (if j = k then 1 else 0) - (if j = c then y k * b else 0)
    have hle := hA.le hp (s := r) (w := fun l => e (skp c l)) fun i hi => ⟨fun l => A i (skp c l), fun j hj => by
      have h1 := sm_skp (fun k => A i k * e k j) r c hc
      rw [h1]
      by_cases hjc : j = c
      · subst hjc
        have h2 : (sm (r + 1) fun k => if k = j then 0 else A i k * e k j) = (-b) * (sm (r + 1) fun k => A i k * y k) + A i j * (y j * b) := by
          have h3 : (sm (r + 1) fun k => if k = j then A i j * (y j * b) else 0) = A i j * (y j * b) := sm_single (fun _ => A i j * (y j * b)) hc
          rw [← h3, ← sm_mul, ← sm_add]
          refine sm_congr fun k _ => ?_
          by_cases hk : k = j
          · subst hk
            rw [if_pos rfl, if_pos rfl]
            grind
          · rw [if_neg hk, if_neg hk]
            simp only [e, if_neg (fun h : j = k => hk h.symm), if_pos]
            grind
        rw [h2, Int.add_emod, mz_mul (hy i hi), Int.zero_add, Int.emod_emod, ← mm_r, hb, Int.mul_one]
      · have h2 : (sm (r + 1) fun k => if k = c then 0 else A i k * e k j) = sm (r + 1) fun k => if k = j then A i k else 0 := sm_congr fun k _ => by
          by_cases hk : k = c
          · subst hk
            rw [if_pos rfl, if_neg (fun h => hjc h.symm)]
          · rw [if_neg hk]
            simp only [e, if_neg hjc]
            by_cases hkj : k = j
            · subst hkj; simp
            · rw [if_neg (fun h : j = k => hkj h.symm), if_neg hkj]; simp
        rw [h2, sm_single (fun k => A i k) hj]⟩
    omega
/-- free rows, as many as columns, take something to whatever is asked -/
theorem Ind.surj (hp : HasInv p) {A : Nat → RowF} (hA : Ind p r r A) (b : Nat → Int) : ∃ x : Nat → Int, ∀ i, i < r → (sm r fun k => A i k * x k) % p = b i % p := by
  obtain ⟨y, ⟨c, hc, hne⟩, hy⟩ := nontriv hp r (r + 1) (by omega) fun k l => if k = r then b l else A l k
  have hs : ∀ l, l < r → ((sm r fun k => A l k * y k) + y r * b l) % p = 0 := fun l hl => by
    have h := hy l hl
    have e : (sm (r + 1) fun k => y k * if k = r then b l else A l k) = (sm r fun k => A l k * y k) + y r * b l := by
      show (sm r fun k => y k * if k = r then b l else A l k) + (y r * if r = r then b l else A l r) = _
      rw [if_pos rfl, sm_congr (g := fun k => A l k * y k) fun k hk => by rw [if_neg (by omega), Int.mul_comm]]
    rwa [e] at h
  by_cases h0 : y r % p = 0
  · have hz := hA.inj hp (y := y) fun i hi => by
      have h := hs i hi
      rw [Int.add_emod, mz_mul' h0, Int.add_zero, Int.emod_emod] at h
      exact h
    rcases Nat.lt_or_ge c r with h | h
    · exact absurd (hz c h) hne
    · have : c = r := by omega
      subst this
      exact absurd h0 hne
  · obtain ⟨d, hd⟩ := hp.2 _ h0
    refine ⟨fun k => -d * y k, fun i hi => ?_⟩
    have h := hs i hi
    rw [sm_congr (g := fun k => -d * (A i k * y k)) fun k _ => by grind, sm_mul, mz_sub]
    have e : -d * (sm r fun k => A i k * y k) - b i = -d * ((sm r fun k => A i k * y k) + y r * b i) + (y r * d - 1) * b i := by grind
    rw [e]
    exact mz_add (mz_mul h _) (mz_mul' (by rw [Int.sub_emod, hd, ← hp.one]; simp) _)
section
variable {R : Nat → List Int} {st : ElE}
/-- the rows that count are free of one another -/
theorem ElOk.free (hp : HasInv p) (h : ElOk p n R m st) : Ind p n st.U.length fun k => lf (R (st.rows.getD k 0)) :=
  h.minor hp (fun l => l) (q := n) fun k hk => ⟨st.cols.getD k 0, (h.row k hk).2.2.1, rfl⟩
/-- each rest is made of the rows that count -/
theorem ElOk.rest_own (h : ElOk p n R m st) : ∀ t, t < st.U.length → Comb p n st.U.length (fun k => lf (R (st.rows.getD k 0))) (lf (st.U.getD t [])) := by
  intro t
  induction t using Nat.strongRecOn with
  | ind t ih =>
    intro ht
    have hone := h.one t (by rw [h.lr]; exact ht)
    have hlow := h.low t (by rw [h.lr]; exact ht)
    have h1 := Comb.one (p := p) (n := n) (fun k => lf (R (st.rows.getD k 0))) ht
    have h2 := Comb.sum (p := p) (n := n) (u := fun k => lf (R (st.rows.getD k 0))) (m := t) (w := fun s => lf (st.U.getD s [])) (fun s hs => ih s hs (by omega)) fun s => (st.C.getD (st.rows.getD t 0) []).getD s 0
    refine (Comb.add h1 h2 1 (-1)).congr fun j hj => ?_
    have hm := h.made _ hlow j hj
    rw [hone.1] at hm
    have e : (sm (t + 1) fun s => (st.C.getD (st.rows.getD t 0) []).getD s 0 * (st.U.getD s []).getD j 0) = (sm t fun s => (st.C.getD (st.rows.getD t 0) []).getD s 0 * lf (st.U.getD s []) j) + (st.U.getD t []).getD j 0 := by
      show _ + (st.C.getD (st.rows.getD t 0) []).getD t 0 * (st.U.getD t []).getD j 0 = _
      rw [hone.2, Int.one_mul]; rfl
    rw [e] at hm
    have hm' : lf (R (st.rows.getD t 0)) j % p = ((sm t fun s => (st.C.getD (st.rows.getD t 0) []).getD s 0 * lf (st.U.getD s []) j) + lf (st.U.getD t []) j) % p := hm
    rw [mz_sub] at hm' ⊢
    have e2 : lf (st.U.getD t []) j - (1 * lf (R (st.rows.getD t 0)) j + -1 * sm t fun s => (st.C.getD (st.rows.getD t 0) []).getD s 0 * lf (st.U.getD s []) j) = -(lf (R (st.rows.getD t 0)) j - ((sm t fun s => (st.C.getD (st.rows.getD t 0) []).getD s 0 * lf (st.U.getD s []) j) + lf (st.U.getD t []) j)) := by grind
    rw [e2]
    exact mz_neg hm'
/-- .. and so is each row -/
theorem ElOk.row_own (hp : HasInv p) (h : ElOk p n R m st) {i : Nat} (hi : i < m) : Comb p n st.U.length (fun k => lf (R (st.rows.getD k 0))) (lf (R i)) :=
  ((h.bas hp).gen i hi).trans fun t ht => h.rest_own t ht

/-- a vector of the own columns' numbers -/
def putV (cols : List Nat) (x' : Nat → Int) : Nat → Int := fun j => sm cols.length fun l => if j = cols.getD l 0 then x' l else 0
theorem putV_off {cols : List Nat} {x' : Nat → Int} {j : Nat} (hj : j ∉ cols) : putV cols x' j = 0 := sm_zero fun l hl => by
  rw [if_neg (fun e => hj (by rw [e, List.getD, List.getElem?_eq_getElem hl]; exact List.getElem_mem hl))]
theorem putV_sum {cols : List Nat} {x' : Nat → Int} (hb : ∀ c ∈ cols, c < n) (a : Nat → Int) : (sm n fun j => a j * putV cols x' j) = sm cols.length fun l => a (cols.getD l 0) * x' l := by
  unfold putV
  rw [sm_congr (g := fun j => sm cols.length fun l => a j * if j = cols.getD l 0 then x' l else 0) fun j _ => (sm_mul _ _ _).symm, sm_comm]
  refine sm_congr fun l hl => ?_
  have hc : cols.getD l 0 < n := hb _ (by rw [List.getD, List.getElem?_eq_getElem hl]; exact List.getElem_mem hl)
  rw [sm_congr (g := fun j => if j = cols.getD l 0 then a j * x' l else 0) fun j _ => by
    by_cases e : j = cols.getD l 0
    · rw [if_pos e, if_pos e]
    · rw [if_neg e, if_neg e, Int.mul_zero]]
  exact sm_single (fun j => a j * x' l) hc
/-- what a matrix makes of a vector, on row i -/
def appF (n : Nat) (R : Nat → List Int) (x : Nat → Int) (i : Nat) : Int := sm n fun j => (R i).getD j 0 * x j
/-- what is right on the rows that count is right on all, if anything is -/
theorem ElOk.all_rows (hp : HasInv p) (h : ElOk p n R m st) {x x0 : Nat → Int} (hk : ∀ k, k < st.U.length → appF n R x (st.rows.getD k 0) % p = appF n R x0 (st.rows.getD k 0) % p) {i : Nat} (hi : i < m) : appF n R x i % p = appF n R x0 i % p := by
  obtain ⟨c, hc⟩ := h.row_own hp hi
  have key : ∀ z : Nat → Int, appF n R z i % p = (sm st.U.length fun k => c k * appF n R z (st.rows.getD k 0)) % p := fun z => by
    have e1 : appF n R z i % p = (sm n fun j => (sm st.U.length fun k => c k * lf (R (st.rows.getD k 0)) j) * z j) % p := sm_mod fun j hj => by
      rw [← mm_l, show (R i).getD j 0 % p = (sm st.U.length fun k => c k * lf (R (st.rows.getD k 0)) j) % p from hc j hj, mm_l]
    rw [e1]
    refine congrArg (· % p) ?_
    rw [sm_congr (g := fun j => sm st.U.length fun k => c k * ((R (st.rows.getD k 0)).getD j 0 * z j)) fun j _ => by
      rw [← sm_mul_r]
      exact sm_congr fun k _ => by rw [Int.mul_assoc]; rfl, sm_comm]
    exact sm_congr fun k _ => sm_mul _ _ _
  rw [key x, key x0]
  exact sm_mod fun k hk' => by rw [← mm_r, hk k hk', mm_r]
/-- the rows that count, in the own columns: free -/
theorem ElOk.core (hp : HasInv p) (h : ElOk p n R m st) : Ind p st.U.length st.U.length fun i l => (R (st.rows.getD i 0)).getD (st.cols.getD l 0) 0 :=
  h.minor hp (fun l => st.cols.getD l 0) fun k hk => ⟨k, hk, rfl⟩
/-- there is something that is 0 outside the own columns, and right on the rows that count -/
theorem ElOk.own_sol (hp : HasInv p) (h : ElOk p n R m st) (b : Nat → Int) : ∃ x : Nat → Int, (∀ j, j ∉ st.cols → x j = 0) ∧ ∀ k, k < st.U.length → appF n R x (st.rows.getD k 0) % p = b (st.rows.getD k 0) % p := by
  obtain ⟨x', hx'⟩ := (h.core hp).surj hp fun k => b (st.rows.getD k 0)
  refine ⟨putV st.cols x', fun j hj => putV_off hj, fun k hk => ?_⟩
  unfold appF
  rw [putV_sum (fun c hc => h.cols_lt hc), h.lk]
  exact hx' k hk
/-- .. and nothing else is -/
theorem ElOk.own_one (hp : HasInv p) (h : ElOk p n R m st) {x y : Nat → Int} (hx : ∀ j, j < n → j ∉ st.cols → x j % p = y j % p) (he : ∀ k, k < st.U.length → appF n R x (st.rows.getD k 0) % p = appF n R y (st.rows.getD k 0) % p) : ∀ j, j < n → x j % p = y j % p := by
  have hz := (h.core hp).inj hp (y := fun l => x (st.cols.getD l 0) - y (st.cols.getD l 0)) fun i hi => by
    have h1 := he i hi
    rw [mz_sub] at h1
    unfold appF at h1
    rw [show (sm n fun j => (R (st.rows.getD i 0)).getD j 0 * x j) - (sm n fun j => (R (st.rows.getD i 0)).getD j 0 * y j) = sm n fun j => (R (st.rows.getD i 0)).getD j 0 * (x j - y j) by
      rw [Int.sub_eq_add_neg, ← sm_neg, ← sm_add]
      exact sm_congr fun j _ => by grind] at h1
    have h2 : (sm n fun j => (R (st.rows.getD i 0)).getD j 0 * (x j - y j)) % p = (sm n fun j => (R (st.rows.getD i 0)).getD j 0 * putV st.cols (fun l => x (st.cols.getD l 0) - y (st.cols.getD l 0)) j) % p := sm_mod fun j hj => by
      by_cases hc : j ∈ st.cols
      · obtain ⟨l, hl, e⟩ := List.getElem_of_mem hc
        have e' : st.cols.getD l 0 = j := by rw [List.getD, List.getElem?_eq_getElem hl]; exact e
        have hinj : ∀ l', l' < st.cols.length → (j = st.cols.getD l' 0 ↔ l' = l) := fun l' hl' => by
          constructor
          · intro e2
            exact h.ech.inj (show l' < _ by rw [← h.lk]; exact hl') (by rw [← h.lk]; exact hl) (e2.symm.trans e'.symm)
          · intro e2; rw [e2, e']
        unfold putV
        rw [sm_congr (g := fun l' => if l' = l then x (st.cols.getD l' 0) - y (st.cols.getD l' 0) else 0) fun l' hl' => by
          by_cases e2 : l' = l
          · rw [if_pos ((hinj l' hl').2 e2), if_pos e2]
          · rw [if_neg (fun e3 => e2 ((hinj l' hl').1 e3)), if_neg e2], sm_single (fun l' => x (st.cols.getD l' 0) - y (st.cols.getD l' 0)) hl, e']
      · rw [putV_off hc, Int.mul_zero]
        rw [mz_mul (mz_sub.1 (hx j hj hc))]
        simp
    rw [h2, putV_sum (fun c hc => h.cols_lt hc), h.lk] at h1
    exact h1
  intro j hj
  by_cases hc : j ∈ st.cols
  · obtain ⟨l, hl, e⟩ := List.getElem_of_mem hc
    have := hz l (by rw [← h.lk]; exact hl)
    rw [show st.cols.getD l 0 = j by rw [List.getD, List.getElem?_eq_getElem hl]; exact e] at this
    exact mz_sub.2 this
  · exact hx j hj hc
end
end Go.Proofs.Ytnfnommiabalfaa
/- Solutions, kernels, rows that are made of others, and what is against: of right matrices over a field, as lists (in plain Lean; nothing of a program). -/
namespace Go.Proofs.Ytnfnommiabalfaa
variable {p : Int} {m n : Nat} {xs : List Int}

/-- a vector's numbers, modulo p -/
def ofF (p : Int) (n : Nat) (z : Nat → Int) : List Int := tab n fun j => z j % p
theorem ofF_len (z : Nat → Int) : (ofF p n z).length = n := tab_len _ _
theorem ofF_get {z : Nat → Int} {j : Nat} (hj : j < n) : (ofF p n z).getD j 0 = z j % p := tab_get _ hj
theorem ofF_rng (hp : 2 ≤ p) (z : Nat → Int) : Rng p (ofF p n z) := tab_rng fun _ _ => mod_range _ hp
/-- a list as a vector -/
def atV (x : List Int) : Nat → Int := fun j => x.getD j 0
theorem vec_ext {x y : List Int} (hp : 2 ≤ p) (hx : x.length = n) (hy : y.length = n) (rx : Rng p x) (ry : Rng p y) (h : ∀ j, j < n → atV x j % p = atV y j % p) : x = y :=
  list_ext (by rw [hx, hy]) fun j hj => by
    have := h j (by omega)
    unfold atV at this
    rwa [mod_small (rx.getD hp j).1 (rx.getD hp j).2, mod_small (ry.getD hp j).1 (ry.getD hp j).2] at this
theorem app_mod {R : Nat → List Int} {x y : Nat → Int} (h : ∀ j, j < n → x j % p = y j % p) (i : Nat) : appF n R x i % p = appF n R y i % p :=
  sm_mod fun j hj => by rw [← mm_r, h j hj, mm_r]
theorem times_get {x : List Int} {i : Nat} (hi : i < m) : (timesL p m n xs x).getD i 0 = appF n (rowOf n xs) (atV x) i % p := by
  unfold timesL
  rw [tab_get _ hi]
  exact congrArg (· % p) (sm_congr fun j hj => by rw [show (rowOf n xs i).getD j 0 = xs.getD (i * n + j) 0 from tab_get _ hj]; rfl)
/-- what a vector makes of a matrix's rows, at column k -/
def lefF (m : Nat) (R : Nat → List Int) (y : Nat → Int) (k : Nat) : Int := sm m fun i => y i * (R i).getD k 0
theorem left_get {y : List Int} {k : Nat} (hk : k < n) : (leftL p m n xs y).getD k 0 = lefF m (rowOf n xs) (atV y) k % p := by
  unfold leftL
  rw [tab_get _ hk]
  exact congrArg (· % p) (sm_congr fun i _ => by rw [show (rowOf n xs i).getD k 0 = xs.getD (i * n + k) 0 from tab_get _ hk, Int.mul_comm]; rfl)
theorem times_eq {x b : List Int} (hp : 2 ≤ p) (hb : b.length = m) (hr : Rng p b) (h : ∀ i, i < m → appF n (rowOf n xs) (atV x) i % p = atV b i % p) : timesL p m n xs x = b :=
  list_ext (by rw [timesL_len, hb]) fun i hi => by
    rw [timesL_len] at hi
    rw [times_get hi, h i hi]
    exact mod_small (hr.getD hp i).1 (hr.getD hp i).2
theorem zeros_rng (hp : 2 ≤ p) (k : Nat) : Rng p (List.replicate k 0) := fun x hx => by rw [List.eq_of_mem_replicate hx]; omega
theorem left_zero {y : List Int} (h : ∀ k, k < n → lefF m (rowOf n xs) (atV y) k % p = 0) : leftL p m n xs y = List.replicate n 0 :=
  list_ext (by rw [leftL_len, List.length_replicate]) fun k hk => by
    rw [leftL_len] at hk
    rw [left_get hk, h k hk, replicate_get]

/-! ### solutions -/
/-- a solution that is 0 outside the own columns -/
structure IsX (p : Int) (m n : Nat) (xs b x : List Int) : Prop where
  len : x.length = n
  rng : Rng p x
  sol : timesL p m n xs x = b
  off : ∀ j, j < n → j ∉ (takeL p m n xs).cols → x.getD j 0 = 0
theorem IsX.one {b x y : List Int} (ok : MatOk p m n xs) (hf : Fld p) (hx : IsX p m n xs b x) (hy : IsX p m n xs b y) : x = y := by
  have hp := (rightB_true ok.hp).1
  have h := takeL_ok (m := m) (n := n) hp hf ok.hx
  refine vec_ext hp hx.len hy.len hx.rng hy.rng (h.own_one (hf.has hp) (fun j hj hc => by unfold atV; rw [hx.off j hj hc, hy.off j hj hc]) fun k hk => ?_)
  have hl := h.low k (by rw [h.lr]; exact hk)
  have e1 := times_get (p := p) (n := n) (xs := xs) (x := x) hl
  have e2 := times_get (p := p) (n := n) (xs := xs) (x := y) hl
  rw [← e1, ← e2, hx.sol, hy.sol]
theorem IsX.of {b : List Int} (ok : MatOk p m n xs) (hf : Fld p) (hb : b.length = m) (hr : Rng p b) {x0 : Nat → Int} (h0 : ∀ i, i < m → appF n (rowOf n xs) x0 i % p = atV b i % p) : ∃ x, IsX p m n xs b x := by
  have hp := (rightB_true ok.hp).1
  have h := takeL_ok (m := m) (n := n) hp hf ok.hx
  obtain ⟨z, hz0, hz⟩ := h.own_sol (hf.has hp) (atV b)
  have hall : ∀ i, i < m → appF n (rowOf n xs) z i % p = atV b i % p := fun i hi =>
    (h.all_rows (hf.has hp) (x := z) (x0 := x0) (fun k hk => (hz k hk).trans (h0 _ (h.low k (by rw [h.lr]; exact hk))).symm) hi).trans (h0 i hi)
  refine ⟨ofF p n z, ofF_len _, ofF_rng hp _, times_eq hp hb hr fun i hi => ?_, fun j hj hc => by rw [ofF_get hj, hz0 j hc]; simp⟩
  rw [← hall i hi]
  exact app_mod (fun j hj => by unfold atV; rw [ofF_get hj, Int.emod_emod]) i
/-- whatever is made has a solution -/
theorem IsX.of_times {b x0 : List Int} (ok : MatOk p m n xs) (hf : Fld p) (h : timesL p m n xs x0 = b) : ∃ x, IsX p m n xs b x := by
  have hp := (rightB_true ok.hp).1
  refine IsX.of ok hf (by rw [← h, timesL_len]) (by rw [← h]; exact timesL_rng hp _ _ _ _) (x0 := atV x0) fun i hi => ?_
  rw [← h]
  unfold atV
  rw [times_get hi, Int.emod_emod]; rfl

/-! ### the kernel -/
/-- the first column that isn't own; n, if all are -/
def freeC (n : Nat) (cols : List Nat) : Nat := (List.range n).findIdx fun j => decide (j ∉ cols)
theorem freeC_le (n : Nat) (cols : List Nat) : freeC n cols ≤ n := by
  have := List.findIdx_le_length (xs := List.range n) (p := fun j => decide (j ∉ cols))
  rwa [List.length_range] at this
theorem freeC_low {cols : List Nat} {j : Nat} (h : j < freeC n cols) : j ∈ cols := by
  have hj : j < (List.range n).length := by rw [List.length_range]; exact Nat.lt_of_lt_of_le h (freeC_le n cols)
  have := List.not_of_lt_findIdx h
  simpa using this
theorem freeC_not {cols : List Nat} (h : freeC n cols < n) : freeC n cols ∉ cols := by
  have h' : (List.range n).findIdx (fun j => decide (j ∉ cols)) < (List.range n).length := by rw [List.length_range]; exact h
  have := List.findIdx_getElem (w := h')
  simp only [List.getElem_range, decide_eq_true_eq] at this
  exact this
theorem freeC_lt {cols : List Nat} (hn : cols.Nodup) (hb : ∀ c ∈ cols, c < n) : freeC n cols < n ↔ cols.length < n := by
  have h1 := offE_len hn hb
  constructor
  · intro h
    have : freeC n cols ∈ offE n cols := offE_mem.2 ⟨h, freeC_not h⟩
    have := List.length_pos_of_mem this
    omega
  · intro h
    rcases Nat.lt_or_ge (freeC n cols) n with c | c
    · exact c
    · exfalso
      have : offE n cols = [] := by
        rw [List.eq_nil_iff_forall_not_mem]
        intro l hl
        obtain ⟨h2, h3⟩ := offE_mem.1 hl
        exact h3 (freeC_low (n := n) (by omega))
      rw [this] at h1
      simp at h1
      omega
/-- what is taken to 0, 1 at the first column that isn't own -/
structure IsK (p : Int) (m n : Nat) (xs x : List Int) : Prop where
  len : x.length = n
  rng : Rng p x
  sol : timesL p m n xs x = List.replicate m 0
  free : x.getD (freeC n (takeL p m n xs).cols) 0 = 1
  off : ∀ j, j < n → j ∉ (takeL p m n xs).cols → j ≠ freeC n (takeL p m n xs).cols → x.getD j 0 = 0
theorem IsK.one {x y : List Int} (ok : MatOk p m n xs) (hf : Fld p) (hx : IsK p m n xs x) (hy : IsK p m n xs y) : x = y := by
  have hp := (rightB_true ok.hp).1
  have h := takeL_ok (m := m) (n := n) hp hf ok.hx
  refine vec_ext hp hx.len hy.len hx.rng hy.rng (h.own_one (hf.has hp) (fun j hj hc => ?_) fun k hk => ?_)
  · unfold atV
    by_cases e : j = freeC n (takeL p m n xs).cols
    · rw [e, hx.free, hy.free]
    · rw [hx.off j hj hc e, hy.off j hj hc e]
  · have hl := h.low k (by rw [h.lr]; exact hk)
    have e1 := times_get (p := p) (n := n) (xs := xs) (x := x) hl
    have e2 := times_get (p := p) (n := n) (xs := xs) (x := y) hl
    rw [← e1, ← e2, hx.sol, hy.sol]
theorem app_add (R : Nat → List Int) (x y : Nat → Int) (i : Nat) : appF n R (fun j => x j + y j) i = appF n R x i + appF n R y i := by
  unfold appF
  rw [← sm_add]
  exact sm_congr fun j _ => by grind
theorem IsK.of (ok : MatOk p m n xs) (hf : Fld p) (hr : (takeL p m n xs).U.length < n) : ∃ x, IsK p m n xs x := by
  have hp := (rightB_true ok.hp).1
  have h := takeL_ok (m := m) (n := n) hp hf ok.hx
  obtain ⟨f, hfe⟩ : ∃ f, freeC n (takeL p m n xs).cols = f := ⟨_, rfl⟩
  have hfn : f < n := by rw [← hfe]; exact (freeC_lt h.cols_nodup fun c hc => h.cols_lt hc).2 (by rw [h.lk]; exact hr)
  have hfc : f ∉ (takeL p m n xs).cols := by
    have := freeC_not (n := n) (cols := (takeL p m n xs).cols) (by rw [hfe]; exact hfn)
    rwa [hfe] at this
  let u : Nat → Int := fun j => if j = f then -1 else 0
  obtain ⟨z, hz0, hz⟩ := h.own_sol (hf.has hp) fun i => appF n (rowOf n xs) u i
  have hall : ∀ i, i < m → appF n (rowOf n xs) z i % p = appF n (rowOf n xs) u i % p := fun i hi => h.all_rows (hf.has hp) hz hi
  refine ⟨ofF p n fun j => z j + if j = f then 1 else 0, ofF_len _, ofF_rng hp _, times_eq hp (List.length_replicate ..) (zeros_rng hp m) fun i hi => ?_, ?_, fun j hj hc hne => ?_⟩
  · have e1 : appF n (rowOf n xs) (atV (ofF p n fun j => z j + if j = f then 1 else 0)) i % p = appF n (rowOf n xs) (fun j => z j + if j = f then 1 else 0) i % p := app_mod (fun j hj => by unfold atV; rw [ofF_get hj, Int.emod_emod]) i
    rw [e1, app_add, Int.add_emod, hall i hi, ← Int.add_emod, ← app_add]
    have e2 : appF n (rowOf n xs) (fun j => u j + if j = f then 1 else 0) i = 0 := sm_zero fun j _ => by
      by_cases e : j = f <;> simp [u, e]
    rw [e2]
    unfold atV
    rw [replicate_get]
  · rw [hfe, ofF_get hfn, hz0 f hfc, if_pos rfl]
    exact (hf.has hp).one
  · rw [hfe] at hne
    rw [ofF_get hj, hz0 j hc, if_neg hne]
    simp

/-! ### rows that are made of others -/
/-- what makes 0 of the rows: 1 at row i, and 0 at the others that don't count -/
structure IsY (p : Int) (m n : Nat) (xs : List Int) (i : Nat) (y : List Int) : Prop where
  len : y.length = m
  rng : Rng p y
  sol : leftL p m n xs y = List.replicate n 0
  own : y.getD i 0 = 1
  off : ∀ k, k < m → k ∉ (takeL p m n xs).rows → k ≠ i → y.getD k 0 = 0
theorem lef_add (R : Nat → List Int) (x y : Nat → Int) (k : Nat) : lefF m R (fun i => x i + y i) k = lefF m R x k + lefF m R y k := by
  unfold lefF
  rw [← sm_add]
  exact sm_congr fun i _ => by grind
theorem lef_put {rows : List Nat} {R : Nat → List Int} {c : Nat → Int} (hb : ∀ k ∈ rows, k < m) (j : Nat) : lefF m R (putV rows c) j = sm rows.length fun l => c l * (R (rows.getD l 0)).getD j 0 := by
  unfold lefF
  rw [sm_congr (g := fun i => (R i).getD j 0 * putV rows c i) fun i _ => Int.mul_comm _ _, putV_sum hb]
  exact sm_congr fun l _ => Int.mul_comm _ _
theorem ElOk.rows_lt {R : Nat → List Int} {st : ElE} (h : ElOk p n R m st) {k : Nat} (hk : k ∈ st.rows) : k < m := by
  obtain ⟨i, hi, rfl⟩ := List.getElem_of_mem hk
  have := h.low i hi
  rwa [List.getD, List.getElem?_eq_getElem hi] at this
theorem ElOk.rows_one {R : Nat → List Int} {st : ElE} (h : ElOk p n R m st) {i k : Nat} (hi : i < st.rows.length) (hk : k < st.rows.length) (e : st.rows.getD i 0 = st.rows.getD k 0) : i = k := by
  rcases Nat.lt_trichotomy i k with c | c | c
  · have := h.inc i k c hk; omega
  · exact c
  · have := h.inc k i c hi; omega
theorem putV_at {rows : List Nat} {c : Nat → Int} {l : Nat} (hl : l < rows.length) (hi : ∀ i k, i < rows.length → k < rows.length → rows.getD i 0 = rows.getD k 0 → i = k) : putV rows c (rows.getD l 0) = c l := by
  unfold putV
  rw [sm_congr (g := fun k => if k = l then c k else 0) fun k hk => by
    by_cases e : k = l
    · rw [if_pos (by rw [e]), if_pos e]
    · rw [if_neg (fun h => e (hi _ _ hl hk h).symm), if_neg e], sm_single c hl]
theorem IsY.of (ok : MatOk p m n xs) (hf : Fld p) {i : Nat} (hi : i < m) (hc : i ∉ (takeL p m n xs).rows) : ∃ y, IsY p m n xs i y := by
  have hp := (rightB_true ok.hp).1
  have h := takeL_ok (m := m) (n := n) hp hf ok.hx
  obtain ⟨c, hcc⟩ := h.row_own (hf.has hp) hi
  let z : Nat → Int := fun k => putV (takeL p m n xs).rows (fun l => -c l) k + if k = i then 1 else 0
  refine ⟨ofF p m z, ofF_len _, ofF_rng hp _, left_zero fun j hj => ?_, ?_, fun k hk hkc hki => ?_⟩
  · have e1 : lefF m (rowOf n xs) (atV (ofF p m z)) j % p = lefF m (rowOf n xs) z j % p := sm_mod fun k hk => by
      unfold atV
      rw [ofF_get hk, mm_l]
    have e2 : lefF m (rowOf n xs) (fun k => if k = i then 1 else 0) j = (rowOf n xs i).getD j 0 := by
      unfold lefF
      rw [sm_congr (g := fun k => if k = i then (rowOf n xs k).getD j 0 else 0) fun k _ => by by_cases e : k = i <;> simp [e]]
      exact sm_single (fun k => (rowOf n xs k).getD j 0) hi
    rw [e1, lef_add, lef_put (fun k hk => h.rows_lt hk), e2, h.lr]
    have e3 := mz_sub.1 (hcc j hj)
    have e4 : (sm (takeL p m n xs).U.length fun l => -c l * (rowOf n xs ((takeL p m n xs).rows.getD l 0)).getD j 0) = -(sm (takeL p m n xs).U.length fun l => c l * lf (rowOf n xs ((takeL p m n xs).rows.getD l 0)) j) := by
      rw [← sm_neg]
      exact sm_congr fun l _ => by rw [Int.neg_mul]; rfl
    rw [e4, Int.add_comm]
    exact e3
  · rw [ofF_get hi]
    show (putV (takeL p m n xs).rows (fun l => -c l) i + if i = i then 1 else 0) % p = 1
    rw [putV_off hc, if_pos rfl]
    exact (hf.has hp).one
  · rw [ofF_get hk]
    show (putV (takeL p m n xs).rows (fun l => -c l) k + if k = i then 1 else 0) % p = 0
    rw [putV_off hkc, if_neg hki]
    simp
/-- rows that count, and what makes 0 of them: 0 -/
theorem lef_own {z : Nat → Int} (ok : MatOk p m n xs) (hf : Fld p) (hz : ∀ k, k < m → k ∉ (takeL p m n xs).rows → z k % p = 0) (h0 : ∀ j, j < n → lefF m (rowOf n xs) z j % p = 0) : ∀ k, k < m → z k % p = 0 := by
  have hp := (rightB_true ok.hp).1
  have h := takeL_ok (m := m) (n := n) hp hf ok.hx
  have hfree := h.free (hf.has hp) (fun l => z ((takeL p m n xs).rows.getD l 0)) fun j hj => by
    have h1 := h0 j hj
    have e : lefF m (rowOf n xs) z j % p = lefF m (rowOf n xs) (putV (takeL p m n xs).rows fun l => z ((takeL p m n xs).rows.getD l 0)) j % p := sm_mod fun k hk => by
      by_cases hc : k ∈ (takeL p m n xs).rows
      · obtain ⟨l, hl, e⟩ := List.getElem_of_mem hc
        have e' : (takeL p m n xs).rows.getD l 0 = k := by rw [List.getD, List.getElem?_eq_getElem hl]; exact e
        have e2 := putV_at (c := fun l => z ((takeL p m n xs).rows.getD l 0)) hl fun i k hi hk => h.rows_one hi hk
        simp only [e'] at e2
        rw [e2]
      · rw [putV_off hc, Int.zero_mul, mz_mul' (hz k hk hc)]
        simp
    rw [e, lef_put (fun k hk => h.rows_lt hk), h.lr] at h1
    exact h1
  intro k hk
  by_cases hc : k ∈ (takeL p m n xs).rows
  · obtain ⟨l, hl, e⟩ := List.getElem_of_mem hc
    have e' : (takeL p m n xs).rows.getD l 0 = k := by rw [List.getD, List.getElem?_eq_getElem hl]; exact e
    have := hfree l (by rw [← h.lr]; exact hl)
    rwa [e'] at this
  · exact hz k hk hc
theorem IsY.one {i : Nat} {x y : List Int} (ok : MatOk p m n xs) (hf : Fld p) (hx : IsY p m n xs i x) (hy : IsY p m n xs i y) : x = y := by
  have hp := (rightB_true ok.hp).1
  refine vec_ext hp hx.len hy.len hx.rng hy.rng fun k hk => mz_sub.2 (lef_own ok hf (z := fun k => atV x k - atV y k) (fun k hk hc => ?_) (fun j hj => ?_) k hk)
  · unfold atV
    by_cases e : k = i
    · rw [e, hx.own, hy.own]; simp
    · rw [hx.off k hk hc e, hy.off k hk hc e]; simp
  · have e1 := left_get (p := p) (m := m) (xs := xs) (y := x) hj
    have e2 := left_get (p := p) (m := m) (xs := xs) (y := y) hj
    rw [hx.sol, replicate_get] at e1
    rw [hy.sol, replicate_get] at e2
    have e : lefF m (rowOf n xs) (fun k => atV x k - atV y k) j = lefF m (rowOf n xs) (atV x) j + -lefF m (rowOf n xs) (atV y) j := by
      unfold lefF
      rw [← sm_neg, ← sm_add]
      exact sm_congr fun k _ => by grind
    rw [e]
    exact mz_add e1.symm (mz_neg e2.symm)
end Go.Proofs.Ytnfnommiabalfaa
/- How many vectors a matrix takes to 0: p so many times multiplied by itself as its columns less its rank (in plain Lean; nothing of a program). -/
namespace Go.Proofs.Ytnfnommiabalfaa

theorem mov_get {p n : Nat} {x t : List Int} (hx : x.length = n) (ht : t.length = n) {j : Nat} (hj : j < n) : atV (movV p x t) j = (atV x j + atV t j) % (p : Int) := by
  unfold atV movV
  simp [List.getD, List.getElem?_zipWith, show j < x.length by omega, show j < t.length by omega]
theorem app_smul (n : Nat) (R : Nat → List Int) (c : Int) (x : Nat → Int) (i : Nat) : appF n R (fun j => c * x j) i = c * appF n R x i := by
  unfold appF
  rw [← sm_mul]
  exact sm_congr fun j _ => by rw [← Int.mul_assoc, ← Int.mul_assoc, Int.mul_comm ((R i).getD j 0)]
theorem app_null (n : Nat) (R : Nat → List Int) (i : Nat) : appF n R (fun _ => 0) i = 0 := sm_zero fun j _ => by simp
theorem app_mov {p n : Nat} {R : Nat → List Int} {x t : List Int} (hx : x.length = n) (ht : t.length = n) (i : Nat) : appF n R (atV (movV p x t)) i % (p : Int) = (appF n R (atV x) i + appF n R (atV t) i) % (p : Int) := by
  rw [← app_add]
  exact app_mod (fun j hj => by rw [mov_get hx ht hj, Int.emod_emod_of_dvd _ (Int.dvd_refl _)]) i
/-- are these rows' numbers 0? -/
def rowsZero (p n : Nat) (R : Nat → List Int) (rows : List Nat) (i : Nat) (x : List Int) : Bool := decide (∀ k, k < i → appF n R (atV x) (rows.getD k 0) % (p : Int) = 0)
theorem ker_step {p n m : Nat} {R : Nat → List Int} {st : ElE} (hp : HasInv (p : Int)) (h : ElOk p n R m st) {i : Nat} (hi : i < st.U.length) : cntV p n (rowsZero p n R st.rows i) = p * cntV p n (rowsZero p n R st.rows (i + 1)) := by
  have hp2 : 2 ≤ p := by have := hp.1; omega
  obtain ⟨x0, -, hx0⟩ := h.own_sol hp fun q => if q = st.rows.getD i 0 then 1 else 0
  have h1 : appF n R x0 (st.rows.getD i 0) % (p : Int) = 1 := by rw [hx0 i hi, if_pos rfl]; exact hp.one
  have h0 : ∀ k, k < i → appF n R x0 (st.rows.getD k 0) % (p : Int) = 0 := fun k hk => by
    have hne := h.inc k i hk (by rw [h.lr]; exact hi)
    rw [hx0 k (by omega), if_neg (by omega)]; rfl
  rw [cntV_split (rowsZero p n R st.rows i) (fun x => appF n R (atV x) (st.rows.getD i 0) % (p : Int)) fun x _ _ => ⟨Int.emod_nonneg _ (by omega), Int.emod_lt_of_pos _ (by omega)⟩]
  rw [← sumN_const]
  refine sumN_congr fun c hc => ?_
  obtain ⟨t, et⟩ : ∃ t, ofF (p : Int) n (fun j => (c : Int) * x0 j) = t := ⟨_, rfl⟩
  have lt : t.length = n := by rw [← et]; exact ofF_len _
  have ht : ∀ k, appF n R (atV t) k % (p : Int) = (c * appF n R x0 k) % (p : Int) := fun k => by
    rw [← app_smul]
    refine app_mod (fun j hj => ?_) k
    unfold atV
    rw [← et, ofF_get hj, Int.emod_emod_of_dvd _ (Int.dvd_refl _)]
  rw [← cntV_move (by omega) n (fun x => rowsZero p n R st.rows i x && (appF n R (atV x) (st.rows.getD i 0) % (p : Int) == (c : Int))) t lt]
  refine cntV_congr fun x hl _ => ?_
  have hm : ∀ k, appF n R (atV (movV p x t)) k % (p : Int) = (appF n R (atV x) k + c * appF n R x0 k) % (p : Int) := fun k => by
    rw [app_mov hl lt, Int.add_emod, ht k, ← Int.add_emod]
  have hz : ∀ k, k < i → appF n R (atV (movV p x t)) (st.rows.getD k 0) % (p : Int) = appF n R (atV x) (st.rows.getD k 0) % (p : Int) := fun k hk => by
    rw [hm, Int.add_emod, Int.mul_emod, h0 k hk]; simp
  have hi1 : appF n R (atV (movV p x t)) (st.rows.getD i 0) % (p : Int) = (appF n R (atV x) (st.rows.getD i 0) % (p : Int) + c) % (p : Int) := by
    rw [hm, Int.add_emod, Int.mul_emod, h1, Int.mul_one, Int.emod_emod_of_dvd _ (Int.dvd_refl _), ← Int.add_emod, Int.emod_add_emod]
  have hg0 := Int.emod_nonneg (appF n R (atV x) (st.rows.getD i 0)) (show (p : Int) ≠ 0 by omega)
  have hg1 := Int.emod_lt_of_pos (appF n R (atV x) (st.rows.getD i 0)) (show (0 : Int) < p by omega)
  unfold rowsZero
  rw [Bool.eq_iff_iff]
  simp only [Bool.and_eq_true, decide_eq_true_eq, beq_iff_eq]
  rw [hi1]
  generalize he : appF n R (atV x) (st.rows.getD i 0) % (p : Int) = e at *
  constructor
  · rintro ⟨a, b⟩ k hk
    rcases Nat.lt_or_ge k i with h | h
    · rw [← hz k h]; exact a k h
    · obtain rfl : k = i := by omega
      rw [he]
      rcases Int.lt_or_le (e + c) p with g | g
      · rw [Int.emod_eq_of_lt (by omega) g] at b; omega
      · have : (e + c) % (p : Int) = e + c - p := by
          rw [← Int.sub_emod_right, Int.emod_eq_of_lt (by omega) (by omega)]
        omega
  · intro a
    refine ⟨fun k hk => by rw [hz k hk]; exact a k (by omega), ?_⟩
    have := a i (by omega)
    rw [he] at this
    rw [this, Int.zero_add]
    exact Int.emod_eq_of_lt (by omega) (by omega)
theorem ker_all {p n m : Nat} {R : Nat → List Int} {st : ElE} (hp : HasInv (p : Int)) (h : ElOk p n R m st) : ∀ i, i ≤ st.U.length → p ^ i * cntV p n (rowsZero p n R st.rows i) = p ^ n
  | 0, _ => by
    rw [Nat.pow_zero, Nat.one_mul, ← cntV_all p n]
    exact cntV_congr fun x _ _ => by simp [rowsZero]
  | i + 1, hi => by
    have h1 := ker_all hp h i (by omega)
    rw [ker_step hp h (show i < st.U.length by omega)] at h1
    rw [← h1, Nat.pow_succ, Nat.mul_assoc]
/-- does the matrix take it to 0? -/
def kerB (p n m : Nat) (R : Nat → List Int) (x : List Int) : Bool := decide (∀ i, i < m → appF n R (atV x) i % (p : Int) = 0)
theorem ElOk.rank_le {p : Int} {n m : Nat} {R : Nat → List Int} {st : ElE} (h : ElOk p n R m st) : st.U.length ≤ n := by
  have := offE_len h.cols_nodup fun c hc => h.cols_lt hc
  have := h.lk
  omega
theorem ker_count {p n m : Nat} {R : Nat → List Int} {st : ElE} (hp : HasInv (p : Int)) (h : ElOk p n R m st) : cntV p n (kerB p n m R) = p ^ (n - st.U.length) := by
  have hp2 : 2 ≤ p := by have := hp.1; omega
  have hr := h.rank_le
  have e : cntV p n (kerB p n m R) = cntV p n (rowsZero p n R st.rows st.U.length) := cntV_congr fun x _ _ => by
    unfold kerB rowsZero
    rw [Bool.eq_iff_iff]
    simp only [decide_eq_true_eq]
    constructor
    · exact fun a k hk => a _ (h.low k (by rw [h.lr]; exact hk))
    · intro a i hi
      have := h.all_rows hp (x := atV x) (x0 := fun _ => 0) (fun k hk => by rw [a k hk, app_null]; rfl) hi
      rw [this, app_null]; rfl
  have := ker_all hp h st.U.length (Nat.le_refl _)
  rw [← e, show n = st.U.length + (n - st.U.length) by omega, Nat.pow_add, show st.U.length + (n - st.U.length) = n by omega] at this
  exact Nat.eq_of_mul_eq_mul_left (Nat.pow_pos (by omega)) this
/-- where the matrix isn't 0, at most one part in p -/
theorem ker_part {p n m : Nat} {R : Nat → List Int} {st : ElE} (hp : HasInv (p : Int)) (h : ElOk p n R m st) (hne : ∃ i j, i < m ∧ j < n ∧ (R i).getD j 0 % (p : Int) ≠ 0) : cntV p n (kerB p n m R) ≤ p ^ n / p := by
  have hp2 : 2 ≤ p := by have := hp.1; omega
  obtain ⟨i, j, hi, hj, hz⟩ := hne
  have hr : 1 ≤ st.U.length := by
    rcases Nat.eq_zero_or_pos st.U.length with h0 | h0
    · exfalso
      apply hz
      rw [h.full hi hj, h0]
      rfl
    · exact h0
  have hn := h.rank_le
  rw [ker_count hp h, show p ^ n = p ^ (n - 1) * p by rw [← Nat.pow_succ]; congr 1; omega, Nat.mul_div_cancel _ (by omega)]
  exact Nat.pow_le_pow_right (by omega) (by omega)
/-- where it is, all of them -/
theorem ker_zero {p n m : Nat} {R : Nat → List Int} (hz : ∀ i j, i < m → j < n → (R i).getD j 0 % (p : Int) = 0) : cntV p n (kerB p n m R) = p ^ n := by
  rw [← cntV_all p n]
  refine cntV_congr fun x _ _ => ?_
  unfold kerB
  rw [decide_eq_true]
  intro i hi
  exact sm_mz fun j hj => mz_mul' (hz i j hi hj) _
end Go.Proofs.Ytnfnommiabalfaa
/- What is wrong of a claimed product, and how many vectors don't tell it (in plain Lean; nothing of a program). -/
namespace Go.Proofs.Ytnfnommiabalfaa
open Go.RowKit Go.Maps

/-- what is wrong -/
def wrongL (p : Int) (m k n : Nat) (xs ys zs : List Int) : List Int := tab (m * n) fun t => ((mulL p m k n xs ys).getD t 0 - zs.getD t 0) % p
/-- does a vector find nothing? -/
def looksB (p : Int) (m k n : Nat) (xs ys zs x : List Int) : Bool := decide (timesL p m k xs (timesL p k n ys x) = timesL p m n zs x)
def leftB (p : Int) (m k n : Nat) (xs ys zs y : List Int) : Bool := decide (leftL p k n ys (leftL p m k xs y) = leftL p m n zs y)
theorem wrongL_len (p : Int) (m k n : Nat) (xs ys zs : List Int) : (wrongL p m k n xs ys zs).length = m * n := tab_len _ _
theorem wrong_get {p : Int} {m k n i j : Nat} {xs ys zs : List Int} (hi : i < m) (hj : j < n) : (wrongL p m k n xs ys zs).getD (i * n + j) 0 = ((mulL p m k n xs ys).getD (i * n + j) 0 - zs.getD (i * n + j) 0) % p := tab_get _ (at_lt hi hj)
theorem wrongL_rng {p : Int} (hp : 2 ≤ p) (m k n : Nat) (xs ys zs : List Int) : Rng p (wrongL p m k n xs ys zs) := tab_rng fun _ _ => mod_range _ hp
theorem MatOk.wrong {p : Int} {m n k : Nat} {xs ys zs : List Int} (h : MatOk p m n zs) : MatOk p m n (wrongL p m k n xs ys zs) :=
  ⟨h.hp, wrongL_rng (rightB_true h.hp).1 m k n xs ys zs, h.hm, h.hn, wrongL_len p m k n xs ys zs⟩
/-- from the left it is the turned ones, looked at from the right -/
theorem left_looks (p : Int) (m k n : Nat) (xs ys zs y : List Int) : leftB p m k n xs ys zs y = looksB p n k m (turnL k n ys) (turnL m k xs) (turnL m n zs) y := by
  unfold leftB looksB
  rw [times_turn, times_turn, times_turn]
theorem sm_less (f g : Nat → Int) (n : Nat) : sm n f - sm n g = sm n fun i => f i - g i := by
  rw [Int.sub_eq_add_neg, ← sm_neg, ← sm_add]
  exact sm_congr fun i _ => (Int.sub_eq_add_neg).symm
/-- a vector finds nothing just if what is wrong makes 0 of it -/
theorem looks_ker {p m k n : Nat} {xs ys zs x : List Int} : looksB (p : Int) m k n xs ys zs x = kerB p n m (rowOf n (wrongL p m k n xs ys zs)) x := by
  have key : ∀ i, i < m → ((timesL (p : Int) m n (mulL (p : Int) m k n xs ys) x).getD i 0 = (timesL (p : Int) m n zs x).getD i 0 ↔ appF n (rowOf n (wrongL p m k n xs ys zs)) (atV x) i % (p : Int) = 0) := by
    intro i hi
    rw [times_get hi, times_get hi, mz_sub]
    have e : appF n (rowOf n (wrongL p m k n xs ys zs)) (atV x) i % (p : Int) = (appF n (rowOf n (mulL (p : Int) m k n xs ys)) (atV x) i - appF n (rowOf n zs) (atV x) i) % (p : Int) := by
      unfold appF
      rw [sm_less]
      refine sm_mod fun j hj => ?_
      have r : ∀ l : List Int, (rowOf n l i).getD j 0 = l.getD (i * n + j) 0 := fun l => tab_get _ hj
      rw [r, r, r, wrong_get hi hj, ← Int.sub_mul, Int.mul_emod, Int.emod_emod_of_dvd _ (Int.dvd_refl _), ← Int.mul_emod]
    rw [e]
  unfold looksB kerB
  rw [times_mul, decide_eq_decide]
  constructor
  · intro h i hi
    exact (key i hi).1 (by rw [h])
  · intro h
    refine list_ext (by rw [timesL_len, timesL_len]) fun i hi => ?_
    rw [timesL_len] at hi
    exact (key i hi).2 (h i hi)
/-- how many find nothing -/
theorem silent_count {p m k n : Nat} {xs ys zs : List Int} (hp : 2 ≤ (p : Int)) (hf : Fld (p : Int)) : cntV p n (looksB (p : Int) m k n xs ys zs) = p ^ (n - (takeL (p : Int) m n (wrongL p m k n xs ys zs)).U.length) := by
  rw [cntV_congr fun x _ _ => looks_ker]
  exact ker_count (hf.has hp) (takeL_ok hp hf (wrongL_rng hp m k n xs ys zs))
theorem silent_zero {p m k n : Nat} {xs ys zs : List Int} (hz : zeroB (wrongL p m k n xs ys zs) = true) : cntV p n (looksB (p : Int) m k n xs ys zs) = p ^ n := by
  rw [cntV_congr fun x _ _ => looks_ker]
  refine ker_zero fun i j hi hj => ?_
  rw [zeroB_iff, wrongL_len] at hz
  rw [show (rowOf n (wrongL p m k n xs ys zs) i).getD j 0 = _ from tab_get _ hj, hz _ (at_lt hi hj)]
  rfl
theorem silent_part {p m k n : Nat} {xs ys zs : List Int} (hp : 2 ≤ (p : Int)) (hf : Fld (p : Int)) (hz : zeroB (wrongL p m k n xs ys zs) = false) : cntV p n (looksB (p : Int) m k n xs ys zs) ≤ p ^ n / p := by
  rw [cntV_congr fun x _ _ => looks_ker]
  refine ker_part (hf.has hp) (takeL_ok hp hf (wrongL_rng hp m k n xs ys zs)) ?_
  apply Classical.byContradiction
  intro hn
  have : zeroB (wrongL p m k n xs ys zs) = true := by
    rw [zeroB_iff, wrongL_len]
    intro t ht
    apply Classical.byContradiction
    intro h0
    have hi := lt_div ht
    have hj := lt_mod ht
    refine hn ⟨t / n, t % n, hi, hj, ?_⟩
    rw [show (rowOf n (wrongL p m k n xs ys zs) (t / n)).getD (t % n) 0 = _ from tab_get _ hj, Nat.mul_comm, Nat.div_add_mod]
    have h1 := (wrongL_rng (p := (p : Int)) hp m k n xs ys zs).getD hp t
    rwa [Int.emod_eq_of_lt h1.1 h1.2]
  rw [this] at hz
  exact absurd hz (by simp)
/-- what is wrong of the turned ones is what is wrong, turned -/
theorem wrong_turn (p : Int) (m k n : Nat) (xs ys zs : List Int) : wrongL p n k m (turnL k n ys) (turnL m k xs) (turnL m n zs) = turnL m n (wrongL p m k n xs ys zs) :=
  grid_of (wrongL_len ..) fun j i hj hi => by rw [wrong_get hj hi, ← turn_mul, turnL, grid_get _ hj hi, turnL, grid_get _ hj hi, wrong_get hi hj]
theorem zeroB_turn {m n : Nat} {l : List Int} (hl : l.length = m * n) : zeroB (turnL m n l) = zeroB l := by
  rw [Bool.eq_iff_iff, zeroB_iff, zeroB_iff, turnL_len, hl]
  constructor
  · intro h t ht
    have hi := lt_div ht
    have hj := lt_mod ht
    have := h (t % n * m + t / n) (at_lt hj hi)
    rwa [turnL, grid_get _ hj hi, Nat.mul_comm, Nat.div_add_mod] at this
  · intro h t ht
    have hi := lt_div ht
    have hj := lt_mod ht
    have := h (t % m * n + t / m) (at_lt hj hi)
    have e : t / m * m + t % m = t := by rw [Nat.mul_comm, Nat.div_add_mod]
    rwa [← e, turnL, grid_get _ hi hj]
end Go.Proofs.Ytnfnommiabalfaa
/- Claims that have the shape: what is taken apart has it; one that has it and makes a matrix is what that is taken apart into; by which vectors it is looked at; its numbers (in plain Lean; nothing of a program). -/
namespace Go.Proofs.Ytnfnommiabalfaa
open Go.RowKit Go.Maps
variable {p : Int} {m n : Nat}

def natsZ (l : List Nat) : List Int := l.map fun k : Nat => (k : Int)
theorem natsZ_len (l : List Nat) : (natsZ l).length = l.length := by simp [natsZ]
/-- a claim has the shape for so many rows and columns -/
def ShpZ (p rows cols : Int) (R K : List Int) (C U : List (List Int)) : Prop :=
  ∃ (m n : Nat) (rs ks : List Nat), rows = m ∧ cols = n ∧ (1 ≤ m ∧ m ≤ 64) ∧ (1 ≤ n ∧ n ≤ 64) ∧ rightB p = true ∧ R = natsZ rs ∧ K = natsZ ks ∧ U.length ≤ m ∧ U.length ≤ n ∧ Shp p m n U.length C rs ks U
noncomputable def shpB (p rows cols : Int) (R K : List Int) (C U : List (List Int)) : Bool := @decide (ShpZ p rows cols R K C U) (Classical.propDecidable _)
theorem shpB_iff {p rows cols : Int} {R K : List Int} {C U : List (List Int)} : shpB p rows cols R K C U = true ↔ ShpZ p rows cols R K C U := by unfold shpB; exact @decide_eq_true_iff _ (Classical.propDecidable _)
theorem shpB_no {p rows cols : Int} {R K : List Int} {C U : List (List Int)} (h : ¬ ShpZ p rows cols R K C U) : shpB p rows cols R K C U = false := by unfold shpB; exact @decide_eq_false _ (Classical.propDecidable _) h
theorem elimE_len (p : Int) (n : Nat) (U : List (List Int)) (cols : List Nat) (row : List Int) : ∀ k, (elimE p n U cols row k).1.length = k
  | 0 => rfl
  | k + 1 => by
    rw [elimE]
    show ((elimE p n U cols row k).1 ++ [_]).length = _
    rw [List.length_append, elimE_len p n U cols row k]; rfl
/-- a row ahead of one that counts has no number for it -/
theorem takeE_low {p : Int} {n : Nat} {R : Nat → List Int} : ∀ (m : Nat) {st : ElE}, takeE p n R m = some st →
    st.C.length = m ∧ st.rows.length = st.U.length ∧ (∀ k, k < st.rows.length → st.rows.getD k 0 < m) ∧ (∀ i, i < m → (st.C.getD i []).length ≤ st.U.length) ∧ ∀ k i, k < st.rows.length → i < st.rows.getD k 0 → (st.C.getD i []).length ≤ k
  | 0, st, h => by
    injection h with h
    subst h
    exact ⟨rfl, rfl, fun k hk => absurd hk (Nat.not_lt_zero _), fun i hi => absurd hi (Nat.not_lt_zero _), fun k i hk => absurd hk (Nat.not_lt_zero _)⟩
  | m + 1, st, h => by
    have h' : (takeE p n R m).bind (fun st => stepE p n st m (R m)) = some st := h
    cases h3 : takeE p n R m with
    | none => rw [h3] at h'; cases h'
    | some s =>
      rw [h3] at h'
      replace h' : stepE p n s m (R m) = some st := h'
      obtain ⟨q1, q2, q3, q4, q5⟩ := takeE_low m h3
      have hE := elimE_len p n s.U s.cols (R m) s.U.length
      obtain ⟨e, he⟩ : ∃ e, elimE p n s.U s.cols (R m) s.U.length = e := ⟨_, rfl⟩
      rw [he] at hE
      unfold stepE at h'
      simp only [he] at h'
      split at h'
      · split at h'
        · injection h' with h'
          subst h'
          refine ⟨by simp [q1], by simp [q2], fun k hk => ?_, fun i hi => ?_, fun k i hk hi => ?_⟩
          · simp only [List.length_append, List.length_cons, List.length_nil] at hk
            by_cases c : k < s.rows.length
            · show (s.rows ++ [m]).getD k 0 < m + 1
              rw [getD_app _ _ _ c]; have := q3 k c; omega
            · show (s.rows ++ [m]).getD k 0 < m + 1
              rw [getD_end _ _ _ (by omega)]; omega
          · show ((s.C ++ [e.1 ++ [1]]).getD i []).length ≤ (s.U ++ [e.2]).length
            by_cases c : i < s.C.length
            · rw [getD_app _ _ _ c]; have := q4 i (by omega); rw [List.length_append]; exact Nat.le_trans this (Nat.le_add_right _ _)
            · rw [getD_end _ _ _ (by omega)]; simp [hE]
          · simp only [List.length_append, List.length_cons, List.length_nil] at hk
            replace hi : i < (s.rows ++ [m]).getD k 0 := hi
            show ((s.C ++ [e.1 ++ [1]]).getD i []).length ≤ k
            by_cases c : k < s.rows.length
            · rw [getD_app _ _ _ c] at hi
              have := q3 k c
              rw [getD_app _ _ _ (by omega)]
              exact q5 k i c hi
            · rw [getD_end _ _ _ (by omega)] at hi
              rw [getD_app _ _ _ (by omega)]
              have := q4 i hi
              omega
        · cases h'
      · injection h' with h'
        subst h'
        refine ⟨by simp [q1], q2, fun k hk => by have := q3 k hk; show s.rows.getD k 0 < m + 1; omega, fun i hi => ?_, fun k i hk hi => ?_⟩
        · show ((s.C ++ [e.1]).getD i []).length ≤ s.U.length
          by_cases c : i < s.C.length
          · rw [getD_app _ _ _ c]; exact q4 i (by omega)
          · rw [getD_end _ _ _ (by omega)]; omega
        · show ((s.C ++ [e.1]).getD i []).length ≤ k
          have := q3 k hk
          replace hi : i < s.rows.getD k 0 := hi
          rw [getD_app _ _ _ (by omega)]
          exact q5 k i hk hi
theorem getD_apps (l l' : List Int) (k : Nat) : (l ++ l').getD k 0 = if k < l.length then l.getD k 0 else l'.getD (k - l.length) 0 := by
  simp only [List.getD, List.getElem?_append]
  split <;> rfl
/-- what a matrix is taken apart into has the shape -/
theorem shp_taken {xs : List Int} (ok : MatOk p m n xs) (hf : Fld p) : ShpZ p m n (profZ p m n xs) (colsZ (takeL p m n xs)) ((takeL p m n xs).C.map (padL (takeL p m n xs).U.length)) (takeL p m n xs).U := by
  have hp := (rightB_true ok.hp).1
  have h := takeL_ok (m := m) (n := n) hp hf ok.hx
  refine ⟨m, n, (takeL p m n xs).rows, (takeL p m n xs).cols, rfl, rfl, ok.hm, ok.hn, ok.hp, rfl, rfl, h.le, h.rank_le, ⟨h.lr, h.lk, rfl, by rw [List.length_map, h.lc], ?_, ?_, ?_, h.zero, ?_, ?_, ?_⟩⟩
  · intro j k hjk hk; exact h.inc j k hjk (by rw [h.lr]; exact hk)
  · intro k hk; exact h.low k (by rw [h.lr]; exact hk)
  · intro k hk
    obtain ⟨a1, a2, a3, _, a5, a6⟩ := h.row k hk
    exact ⟨a1, a2, a3, a6, a5⟩
  · intro i hi
    have hc := h.cl i hi
    rw [map_getD (by rw [h.lc]; exact hi)]
    exact ⟨padL_len hc.1, hc.2.pad hp _⟩
  · intro k hk
    have hk' : k < (takeL p m n xs).rows.length := by rw [h.lr]; exact hk
    rw [map_getD (by rw [h.lc]; exact h.low k hk'), padL_get]
    exact (h.one k hk').2
  · intro k i hk hi
    have hk' : k < (takeL p m n xs).rows.length := by rw [h.lr]; exact hk
    have him : i < m := by have := h.low k hk'; omega
    rw [map_getD (by rw [h.lc]; exact him), padL_get]
    exact getD_over ((takeE_low m (takeL_some (m := m) (n := n) hp hf ok.hx)).2.2.2.2 k i hk' hi)
/-- parts that have the shape may make a matrix -/
theorem ShpZ.ok {rows cols : Int} {R K : List Int} {C U : List (List Int)} (h : ShpZ p rows cols R K C U) : ∃ m n : Nat, rows = m ∧ cols = n ∧ CupOk p m n C U ∧ R.length = U.length ∧ K.length = U.length := by
  obtain ⟨m, n, rs, ks, e1, e2, hm, hn, hp, rfl, rfl, hu, _, s⟩ := h
  refine ⟨m, n, e1, e2, ⟨hp, hm, hn, s.lc, fun l hl => ?_, fun l hl => ?_, Nat.le_trans hu hm.2⟩, by rw [natsZ_len, s.lr], by rw [natsZ_len, s.lk]⟩
  · obtain ⟨i, hi, rfl⟩ := List.getElem_of_mem hl
    have := s.crow i (by rw [← s.lc]; exact hi)
    rw [List.getD, List.getElem?_eq_getElem hi] at this
    exact this
  · obtain ⟨i, hi, rfl⟩ := List.getElem_of_mem hl
    have := s.row i hi
    rw [List.getD, List.getElem?_eq_getElem hi] at this
    exact ⟨this.1, this.2.1⟩
theorem CupOk.made {C U : List (List Int)} (h : CupOk p m n C U) : MatOk p m n (makeL p C U m n) :=
  ⟨h.hp, tab_rng fun _ _ => mod_range _ (rightB_true h.hp).1, h.hm, h.hn, makeL_len C U⟩
/-- a claim that has the shape is what the matrix that it makes is taken apart into -/
theorem ShpZ.taken {R K : List Int} {C U : List (List Int)} (hf : Fld p) (h : ShpZ p m n R K C U) :
    profZ p m n (makeL p C U m n) = R ∧ colsZ (takeL p m n (makeL p C U m n)) = K ∧ (takeL p m n (makeL p C U m n)).C.map (padL (takeL p m n (makeL p C U m n)).U.length) = C ∧ (takeL p m n (makeL p C U m n)).U = U := by
  obtain ⟨m', n', rs, ks, e1, e2, hm, hn, hp, rfl, rfl, hu, _, s⟩ := h
  have e1' : m = m' := by omega
  have e2' : n = n' := by omega
  subst e1'; subst e2'
  have hp2 := (rightB_true hp).1
  obtain ⟨D, e, dl, dk⟩ := shp_is (R := rowOf n (makeL p C U m n)) hp2 hf s (fun i _ => tab_len _ _) (fun i hi j hj => by
    rw [show (rowOf n (makeL p C U m n) i).getD j 0 = _ from tab_get _ hj]
    exact grid_get _ hi hj)
  have eT : takeL p m n (makeL p C U m n) = ⟨D, rs, ks, U⟩ := by unfold takeL; rw [e]; rfl
  unfold profZ
  rw [eT]
  refine ⟨rfl, rfl, List.ext_getElem (by rw [List.length_map, dl, s.lc]) fun i hi hi' => ?_, rfl⟩
  have hi : i < D.length := by simpa using hi
  have him : i < m := by omega
  have q1 : D[i] = D.getD i [] := by simp [List.getD, hi]
  have q2 : C[i] = C.getD i [] := by simp [List.getD, hi']
  rw [List.getElem_map, q1, q2]
  refine list_ext (by rw [padL_len (dk i him).1, (s.crow i him).1]) fun j _ => ?_
  rw [padL_get]
  exact (dk i him).2 j
/-- it is what a matrix is taken apart into just if it makes that -/
theorem ShpZ.same {R K : List Int} {C U : List (List Int)} {xs : List Int} (ok : MatOk p m n xs) (hf : Fld p) (h : ShpZ p m n R K C U) :
    (profZ p m n xs = R ∧ colsZ (takeL p m n xs) = K ∧ (takeL p m n xs).C.map (padL (takeL p m n xs).U.length) = C ∧ (takeL p m n xs).U = U) ↔ makeL p C U m n = xs := by
  constructor
  · rintro ⟨-, -, e3, e4⟩
    have := make_take (m := m) (n := n) (rightB_true ok.hp).1 hf ok.hx ok.hl ok.hn.1 (takeL p m n xs).U.length
    rw [e3, e4] at this
    exact this
  · rintro rfl
    exact h.taken hf
/-- rows of one length, one behind the other -/
theorem flat_get {ls : List (List Int)} {r : Nat} (h : ∀ l ∈ ls, l.length = r) {i k : Nat} (hi : i < ls.length) (hk : k < r) : ls.flatten.getD (i * r + k) 0 = (ls.getD i []).getD k 0 := by
  induction ls generalizing i with
  | nil => exact absurd hi (Nat.not_lt_zero _)
  | cons l t ih =>
    have hl := h l (by simp)
    rw [List.flatten_cons]
    cases i with
    | zero =>
      rw [Nat.zero_mul, Nat.zero_add, getD_apps, if_pos (by omega)]
      rfl
    | succ i =>
      have : (i + 1) * r + k = r + (i * r + k) := by rw [Nat.succ_mul]; omega
      rw [this, getD_apps, if_neg (by omega), hl, show r + (i * r + k) - r = i * r + k by omega, ih (fun x hx => h x (by simp [hx])) (by simpa using hi)]
      rfl
theorem flat_len {ls : List (List Int)} {r : Nat} (h : ∀ l ∈ ls, l.length = r) : ls.flatten.length = ls.length * r := by
  induction ls with
  | nil => simp
  | cons l t ih => rw [List.flatten_cons, List.length_append, h l (by simp), ih fun x hx => h x (by simp [hx]), List.length_cons, Nat.succ_mul, Nat.add_comm]
theorem CupOk.mul {C U : List (List Int)} (h : CupOk p m n C U) : mulL p m U.length n C.flatten U.flatten = makeL p C U m n := by
  unfold mulL makeL
  refine tab_congr fun t ht => ?_
  have hi := lt_div ht
  have hj := lt_mod ht
  show dv p _ _ _ = _
  unfold dv
  congr 1
  refine sm_congr fun k hk => ?_
  show C.flatten.getD (t / n * U.length + k) 0 * U.flatten.getD (k * n + t % n) 0 = _
  rw [flat_get (fun l hl => (h.c l hl).1) (by rw [h.lc]; exact hi) hk, flat_get (fun l hl => (h.u l hl).1) hk hj]
/-- does a vector find nothing wrong of a claim? -/
def shlB (p : Int) (m n : Nat) (xs : List Int) (C U : List (List Int)) (x : List Int) : Bool := looksB p m U.length n C.flatten U.flatten xs x
theorem wrong_made {C U : List (List Int)} {xs : List Int} (ok : MatOk p m n xs) (h : CupOk p m n C U) : zeroB (wrongL p m U.length n C.flatten U.flatten xs) = true ↔ makeL p C U m n = xs := by
  have hp := (rightB_true ok.hp).1
  unfold wrongL
  rw [h.mul, zeroB_iff, tab_len]
  constructor
  · intro hz
    refine list_ext (by rw [makeL_len, ok.hl]) fun j hj => ?_
    rw [makeL_len] at hj
    have h1 := hz j hj
    rw [tab_get _ hj] at h1
    have a := h.made.hx.getD hp j
    have b := ok.hx.getD hp j
    have h2 := Int.emod_eq_emod_iff_emod_sub_eq_zero.2 h1
    rwa [Int.emod_eq_of_lt a.1 a.2, Int.emod_eq_of_lt b.1 b.2] at h2
  · intro e j hj
    rw [tab_get _ hj, e]
    simp
/-- the vector that is 1 at one place -/
def unitV (n i : Nat) : List Int := (List.replicate n (0 : Int)).set i 1
theorem unitV_get {n i j : Nat} (hi : i < n) : (unitV n i).getD j 0 = if i = j then 1 else 0 := by
  unfold unitV
  rw [set_get _ _ _ _ (by simpa using hi)]
  by_cases e : i = j
  · rw [if_pos e, if_pos e]
  · rw [if_neg e, if_neg e]
    simp [List.getD, List.getElem?_replicate]
    split <;> rfl
theorem unitV_len (n i : Nat) : (unitV n i).length = n := by simp [unitV]
theorem unitV_rng (hp : 2 ≤ p) (n i : Nat) : Rng p (unitV n i) := fun x hx => by
  rcases List.mem_or_eq_of_mem_set hx with h | h
  · rw [List.eq_of_mem_replicate h]; omega
  · omega
/-- what passes each such vector is right -/
theorem units_zero {P : Nat} {m k n : Nat} {xs ys zs : List Int} (hp : 2 ≤ (P : Int)) : (∀ i, i < n → looksB (P : Int) m k n xs ys zs (unitV n i) = true) ↔ zeroB (wrongL (P : Int) m k n xs ys zs) = true := by
  have key : ∀ j, j < n → ∀ i, i < m → appF n (rowOf n (wrongL (P : Int) m k n xs ys zs)) (atV (unitV n j)) i % (P : Int) = (wrongL (P : Int) m k n xs ys zs).getD (i * n + j) 0 := by
    intro j hj i hi
    have e : appF n (rowOf n (wrongL (P : Int) m k n xs ys zs)) (atV (unitV n j)) i = (wrongL (P : Int) m k n xs ys zs).getD (i * n + j) 0 := by
      unfold appF
      rw [show (wrongL (P : Int) m k n xs ys zs).getD (i * n + j) 0 = (rowOf n (wrongL (P : Int) m k n xs ys zs) i).getD j 0 from (tab_get (fun j => (wrongL (P : Int) m k n xs ys zs).getD (i * n + j) 0) hj).symm, ← sm_single (fun t => (rowOf n (wrongL (P : Int) m k n xs ys zs) i).getD t 0) hj]
      refine sm_congr fun t _ => ?_
      unfold atV
      rw [unitV_get hj]
      by_cases e : j = t
      · rw [if_pos e, if_pos e.symm, Int.mul_one]
      · rw [if_neg e, if_neg (fun h => e h.symm), Int.mul_zero]
    rw [e]
    have := (wrongL_rng (p := (P : Int)) hp m k n xs ys zs).getD hp (i * n + j)
    exact Int.emod_eq_of_lt this.1 this.2
  rw [zeroB_iff, wrongL_len]
  constructor
  · intro h t ht
    have hi := lt_div ht
    have hj := lt_mod ht
    have h1 := h _ hj
    rw [looks_ker] at h1
    unfold kerB at h1
    have h2 := of_decide_eq_true h1 _ hi
    rw [key _ hj _ hi, Nat.mul_comm, Nat.div_add_mod] at h2
    exact h2
  · intro h i hi
    rw [looks_ker]
    unfold kerB
    refine decide_eq_true fun a ha => ?_
    rw [key _ hi _ ha]
    exact h _ (at_lt ha hi)
end Go.Proofs.Ytnfnommiabalfaa
