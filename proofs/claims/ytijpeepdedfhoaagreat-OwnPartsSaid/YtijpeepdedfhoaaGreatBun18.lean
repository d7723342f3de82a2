/- What the texts Ref06c, CupO, SolM, SolL, SolI, SvM, Sv1 show, in one text. -/
import Derived.Test.YtijpeepdedfhoaaGreatBun09
import Derived.Test.YtijpeepdedfhoaaGreatBun12
import Derived.Test.YtijpeepdedfhoaaGreatBun08
import Derived.StillTailTactics
import Derived.Test.YtijpeepdedfhoaaGreatBun17
import Derived.Test.YtijpeepdedfhoaaGreatBun20
/- The document's own answer of layer 6 that puts a matrix's rows in another order: Rows. -/
namespace Go.Proofs.YtijpeepdedfhoaaGreat
open Go.RowKit Go.Maps

/-- a matrix's rows, in another order -/
def rowsL (p : List Int) (c : Nat) (xs : List Int) : List Int := grid p.length c fun i k => xs.getD ((p.getD i 0).toNat * c + k) 0
theorem rowsL_len (p : List Int) (c : Nat) (xs : List Int) : (rowsL p c xs).length = p.length * c := grid_len _ _ _
theorem tab_add {t d : Nat} {G : Nat → Int} {l : List Int} (hl : l.length = d) (h : ∀ j, j < d → l.getD j 0 = G (t + j)) : tab (t + d) G = tab t G ++ l := by
  symm
  refine tab_of (by rw [List.length_append, tab_len, hl]) fun k hk => ?_
  simp only [List.getD, List.getElem?_append, tab_len]
  split
  · rename_i h1
    exact tab_get G h1
  · have := h (k - t) (by omega)
    rwa [show t + (k - t) = k by omega] at this
/-- a slice's numbers as cells that are appended -/
theorem ints_news {k : IntKind} {w : World} {ad : Addr} {m c : Nat} {l : List Int} (h : Ints k w (.slice (some ad) m c) l) : ∀ j u, (l.map (Value.int k))[j]? = some u → w.cell? (ad.add j) = some u := by
  intro j u hj
  obtain ⟨a, cap, e, _, _, h3⟩ := h
  injection e with e1 _ _
  subst e1
  have hjl : j < l.length := by
    rcases Nat.lt_or_ge j l.length with h | h
    · exact h
    · rw [List.getElem?_eq_none (by simpa using h)] at hj; cases hj
  obtain ⟨b, off, e, hb, hcell⟩ := h3 (by omega)
  injection e with e
  subst e
  rw [show ((⟨b, off, none⟩ : Addr).add j) = ⟨b, off + j, none⟩ from Go.WideShapes.add_plain _ _ _, hcell j hjl]
  rw [List.getElem?_map, List.getElem?_eq_getElem hjl] at hj
  simp only [Option.map_some, Option.some.injEq] at hj
  rw [← hj]
  simp [List.getD, List.getElem?_eq_getElem hjl]
theorem ints_one {k : IntKind} {l : List Int} : ∀ u ∈ l.map (Value.int k), u.oneCell' = true := by
  intro u hu
  obtain ⟨q, _, rfl⟩ := List.mem_map.1 hu
  rfl
/-- numbers are appended, and the box told -/
theorem Bld.more {w0 w w' : World} {h base : Nat} {r c : Int} {rv v' : Value} {t t' : Nat} {G : Nat → Int} (b : Bld w0 w h base r c rv t G) (hown : w'.ownsRow base 22 1 v' t' ((tab t' G).map (Value.int .u64))) (hg : w.grownBy w' rv.ownBlock) :
    Bld w0 (w'.setCell ⟨h, 2, none⟩ v') h base r c v' t' G := by
  have hne : rv.ownBlock ≠ some h := by
    rcases ownsRow_blk b.own b.box (by decide) with e | e
    · rw [e]; simp
    · exact e
  have hb := b.box.grown hg hne
  have hne2 : v'.ownBlock ≠ some h := by
    rcases ownsRow_blk hown hb (by decide) with e | e
    · rw [e]; simp
    · exact e
  exact ⟨hb.set_ 2 v', hown.kept (setCell_grown _ _ _) (.inr hne2), (b.ext.grown hg fun k e => Nat.le_trans b.hb (b.own.lt k e).1).setCell b.hh _, b.hb, b.hh⟩

end Go.Proofs.YtijpeepdedfhoaaGreat
/- Right matrices over a field: rows in another order, rows again, products, rows that are scaled or alike, as the laws of layer 7 ask for them (in plain Lean; nothing of a program). -/
namespace Go.Proofs.YtijpeepdedfhoaaGreat
variable {p : Int} {m n k q : Nat} {xs ys o : List Int}

theorem rowOf_congr {xs ys : List Int} {i i' : Nat} (h : ∀ j, j < n → ys.getD (i * n + j) 0 = xs.getD (i' * n + j) 0) : rowOf n ys i = rowOf n xs i' := tab_congr h
theorem rowsL_rng (hp : 2 ≤ p) (hx : Rng p xs) : Rng p (rowsL o n xs) := grid_rng fun _ _ _ _ => hx.getD hp _
theorem rowOf_rows {i : Nat} (ho : Ord m o) (hi : i < m) : rowOf n (rowsL o n xs) i = rowOf n xs (o.getD i 0).toNat :=
  rowOf_congr fun j hj => by rw [rowsL, grid_get _ (by rw [ho.len]; exact hi) hj]
theorem rank_rows (hp : 2 ≤ p) (hf : Fld p) (hx : Rng p xs) (ho : Ord m o) : (takeL p m n (rowsL o n xs)).U.length = (takeL p m n xs).U.length := by
  have h1 := takeL_ok (m := m) (n := n) hp hf hx
  have h2 := takeL_some (m := m) (n := n) hp hf (rowsL_rng (o := o) (n := n) hp hx)
  rw [takeE_congr (R' := fun i => rowOf n xs (o.getD i 0).toNat) m fun i hi => rowOf_rows ho hi] at h2
  exact rank_order (hf.has hp) ho h1 (takeE_ok hp m (fun i _ => rowOf_rng hp hx _) h2)
theorem rowsF_congr {R R' : Nat → List Int} (h : ∀ i, i < n → R i = R' i) : rowsF n R = rowsF n R' := by
  unfold rowsF
  exact List.map_congr_left fun i hi => by rw [h i (List.mem_range.1 hi)]
theorem det_rows (ho : Ord n o) : detF n (atF n (rowsL o n xs)) = sgnL o * detF n (atF n xs) := by
  rw [← rowsF_det, ← rowsF_det, ← det_order ho]
  exact congrArg _ (rowsF_congr fun i hi => rowOf_rows ho hi)
theorem prof_again (hp : 2 ≤ p) (hf : Fld p) (hx : Rng p xs) (hl : xs.length = m * n) : profZ p (2 * m) n (xs ++ xs) = profZ p m n xs := by
  have hle : ∀ i j, i < m → j < n → i * n + j < m * n := fun i j hi hj => at_lt hi hj
  have h0 : ∀ i, i < m → rowOf n (xs ++ xs) i = rowOf n xs i := fun i hi => rowOf_congr fun j hj => by
    have := hle i j hi hj
    simp only [List.getD]
    rw [List.getElem?_append_left (by omega)]
  have h1 : ∀ i, i < m → rowOf n (xs ++ xs) (m + i) = rowOf n xs i := fun i hi => rowOf_congr fun j hj => by
    have e : (m + i) * n + j = m * n + (i * n + j) := by rw [Nat.add_mul, Nat.add_assoc]
    simp only [List.getD]
    rw [e, List.getElem?_append_right (by omega), hl, Nat.add_sub_cancel_left]
  obtain ⟨s, hs, hr⟩ := takeE_again (hf.has hp) (fun i _ => rowOf_rng hp hx i) h0 h1 (takeL_some (m := m) (n := n) hp hf hx) m (Nat.le_refl _)
  have h2 := takeL_some (m := 2 * m) (n := n) hp hf (rng_app hx hx)
  rw [show 2 * m = m + m by omega, hs] at h2
  injection h2 with h2
  unfold profZ
  rw [show 2 * m = m + m by omega, ← h2, hr]

/-! ### products -/
theorem Bas.congr {r : Nat} {M M' u : Nat → RowF} (B : Bas p n m r M u) (h : ∀ i j, i < m → j < n → M' i j % p = M i j % p) : Bas p n m r M' u :=
  ⟨B.ind, fun i hi => (B.gen i hi).congr fun j hj => h i j hi hj, fun k hk => (B.own k hk).trans fun i hi => (Comb.one M' hi).congr fun j hj => (h i j hi hj).symm⟩
theorem lf_mul {i j : Nat} (hi : i < m) (hj : j < q) : lf (rowOf q (mulL p m k q xs ys) i) j % p = mulF k (fun i => lf (rowOf k xs i)) (fun l => lf (rowOf q ys l)) i j % p := by
  rw [lf_row hj]
  show (mulL p m k q xs ys).getD (i * q + j) 0 % p = _
  rw [mulL, grid_get _ hi hj]
  unfold dv mulF
  rw [Int.emod_emod]
  exact congrArg (· % p) (sm_congr fun l hl => by
    show atF k xs i l * atF q ys l j = lf (rowOf k xs i) l * lf (rowOf q ys l) j
    rw [lf_row hl, lf_row hj])
theorem rank_mul (hp : 2 ≤ p) (hf : Fld p) (hx : Rng p xs) (hy : Rng p ys) :
    (takeL p m q (mulL p m k q xs ys)).U.length ≤ (takeL p m k xs).U.length ∧ (takeL p m q (mulL p m k q xs ys)).U.length ≤ (takeL p k q ys).U.length ∧
    (takeL p m k xs).U.length + (takeL p k q ys).U.length ≤ (takeL p m q (mulL p m k q xs ys)).U.length + k := by
  have hi := hf.has hp
  have hA := takeL_ok (m := m) (n := k) hp hf hx
  have A := hA.bas hi
  have B := (takeL_ok (m := k) (n := q) hp hf hy).bas hi
  have D := ((takeL_ok (m := m) (n := q) hp hf (mulL_rng hp m k q xs ys)).bas hi).congr (M' := mulF k (fun i => lf (rowOf k xs i)) fun l => lf (rowOf q ys l)) fun i j h1 h2 => (lf_mul h1 h2).symm
  exact ⟨Bas.mul_left hi D A, Bas.mul_right hi D B, rank_sylvester hi hA D B⟩
theorem detF_mod : ∀ (n : Nat) {A B : Nat → Nat → Int}, (∀ i j, i < n → j < n → A i j % p = B i j % p) → detF n A % p = detF n B % p
  | 0, _, _, _ => rfl
  | n + 1, A, B, h => by
    rw [detF_succ, detF_succ]
    refine sm_mod fun k hk => ?_
    have h1 := h 0 k (by omega) hk
    have h2 := detF_mod n (A := fun i j => A (i + 1) (skp k j)) (B := fun i j => B (i + 1) (skp k j)) fun i j hi hj => h _ _ (by omega) (skp_lt hj)
    rw [← mm_r, h2, mm_r, Int.mul_assoc, Int.mul_assoc, ← mm_r (sg k), ← mm_l (A 0 k), h1, mm_l, mm_r]
theorem det_product (hp : 2 ≤ p) (hf : Fld p) (hx : Rng p xs) : detF n (atF n (mulL p n n n xs ys)) % p = (detF n (atF n xs) % p) * (detF n (atF n ys) % p) % p := by
  have hi := hf.has hp
  have h := takeL_ok (m := n) (n := n) hp hf hx
  have h1 := det_mul hi h (B := rowOf n ys)
  have h2 := h.det hi
  rw [rowsF_det] at h1 h2
  have e : (rowsF n (rowOf n xs)).map (mulR n fun l => lf (rowOf n ys l)) = (List.range n).map fun i => mulR n (fun l => lf (rowOf n ys l)) (lf (rowOf n xs i)) := by
    unfold rowsF
    rw [List.map_map]; rfl
  rw [e] at h1
  have e2 : detF n (atF n (mulL p n n n xs ys)) % p = detN n ((List.range n).map fun i => mulR n (fun l => lf (rowOf n ys l)) (lf (rowOf n xs i))) % p := detF_mod n fun i j h3 h4 => by
    have := lf_mul (p := p) (k := n) (xs := xs) (ys := ys) h3 h4
    rw [lf_row h4] at this
    exact this
  rw [mm_r, e2, h1, h2, mm_l]
theorem rowOf_set {i : Nat} {x : Int → Int} (zs : List Int) (h1 : ∀ a b, a < n → b < n → zs.getD (a * n + b) 0 = if a = i then x (xs.getD (i * n + b) 0) else xs.getD (a * n + b) 0) : (∀ a, a < n → a ≠ i → rowOf n zs a = rowOf n xs a) ∧ (i < n → ∀ b, b < n → (rowOf n zs i).getD b 0 = x ((rowOf n xs i).getD b 0)) :=
  ⟨fun a ha hne => rowOf_congr fun b hb => by rw [h1 a b ha hb, if_neg hne], fun hi b hb => by
    have e1 : (rowOf n zs i).getD b 0 = zs.getD (i * n + b) 0 := tab_get _ hb
    have e2 : (rowOf n xs i).getD b 0 = xs.getD (i * n + b) 0 := tab_get _ hb
    rw [e1, e2, h1 i b hi hb, if_pos rfl]⟩
theorem det_scaled {i : Nat} {c : Int} {zs : List Int} (hi : i < n) (h : ∀ a b, a < n → b < n → zs.getD (a * n + b) 0 = if a = i then xs.getD (i * n + b) 0 * c % p else xs.getD (a * n + b) 0) : detF n (atF n zs) % p = detF n (atF n xs) % p * c % p := by
  obtain ⟨h1, h2⟩ := rowOf_set (x := fun y => y * c % p) zs h
  rw [← rowsF_det, ← rowsF_det, det_scale hi h1 (x := c) fun b hb => by rw [h2 hi b hb, Int.emod_emod], mm_l]
theorem det_twice {i j : Nat} {zs : List Int} (hi : i < n) (hj : j < n) (hij : i ≠ j) (h : ∀ b, b < n → zs.getD (i * n + b) 0 = zs.getD (j * n + b) 0) : detF n (atF n zs) = 0 := by
  rw [← rowsF_det]
  exact det_alike hi hj hij (rowOf_congr h)
end Go.Proofs.YtijpeepdedfhoaaGreat
/- Square systems over a field; the rows that count, and what is made of them; solutions that are 0 outside a matrix's own columns (in plain Lean; nothing of a program). -/
namespace Go.Proofs.YtijpeepdedfhoaaGreat
variable {p : Int} {m n r : Nat}

/-- what is taken to 0 by free rows, as many as columns, is 0 -/
theorem Ind.inj (hp : HasInv p) {A : Nat → RowF} (hA : Ind p r r A) {y : Nat → Int} (hy : ∀ i, i < r → (sm r fun k => A i k * y k) % p = 0) : ∀ k, k < r → y k % p = 0 := by
  intro c hc
  refine Classical.byContradiction fun hne => ?_
  obtain ⟨b, hb⟩ := hp.2 (y c) hne
  cases r with
  | zero => omega
  | succ r =>
    let e : Nat → RowF := fun k j => (if j = k then 1 else 0) - (if j = c then y k * b else 0)
    have hle := hA.le hp (s := r) (w := fun l => e (skp c l)) fun i hi => ⟨fun l => A i (skp c l), fun j hj => by
      have h1 := sm_skp (fun k => A i k * e k j) r c hc
      rw [h1]
      by_cases hjc : j = c
      · subst hjc
        have h2 : (sm (r + 1) fun k => if k = j then 0 else A i k * e k j) = (-b) * (sm (r + 1) fun k => A i k * y k) + A i j * (y j * b) := by
          have h3 : (sm (r + 1) fun k => if k = j then A i j * (y j * b) else 0) = A i j * (y j * b) := sm_single (fun _ => A i j * (y j * b)) hc
          rw [← h3, ← sm_mul, ← sm_add]
          refine sm_congr fun k _ => ?_
          by_cases hk : k = j
          · subst hk
            rw [if_pos rfl, if_pos rfl]
            grind
          · rw [if_neg hk, if_neg hk]
            simp only [e, if_neg (fun h : j = k => hk h.symm), if_pos]
            grind
        rw [h2, Int.add_emod, mz_mul (hy i hi), Int.zero_add, Int.emod_emod, ← mm_r, hb, Int.mul_one]
      · have h2 : (sm (r + 1) fun k => if k = c then 0 else A i k * e k j) = sm (r + 1) fun k => if k = j then A i k else 0 := sm_congr fun k _ => by
          by_cases hk : k = c
          · subst hk
            rw [if_pos rfl, if_neg (fun h => hjc h.symm)]
          · rw [if_neg hk]
            simp only [e, if_neg hjc]
            by_cases hkj : k = j
            · subst hkj; simp
            · rw [if_neg (fun h : j = k => hkj h.symm), if_neg hkj]; simp
        rw [h2, sm_single (fun k => A i k) hj]⟩
    omega
/-- free rows, as many as columns, take something to whatever is asked -/
theorem Ind.surj (hp : HasInv p) {A : Nat → RowF} (hA : Ind p r r A) (b : Nat → Int) : ∃ x : Nat → Int, ∀ i, i < r → (sm r fun k => A i k * x k) % p = b i % p := by
  obtain ⟨y, ⟨c, hc, hne⟩, hy⟩ := nontriv hp r (r + 1) (by omega) fun k l => if k = r then b l else A l k
  have hs : ∀ l, l < r → ((sm r fun k => A l k * y k) + y r * b l) % p = 0 := fun l hl => by
    have h := hy l hl
    have e : (sm (r + 1) fun k => y k * if k = r then b l else A l k) = (sm r fun k => A l k * y k) + y r * b l := by
      show (sm r fun k => y k * if k = r then b l else A l k) + (y r * if r = r then b l else A l r) = _
      rw [if_pos rfl, sm_congr (g := fun k => A l k * y k) fun k hk => by rw [if_neg (by omega), Int.mul_comm]]
    rwa [e] at h
  by_cases h0 : y r % p = 0
  · have hz := hA.inj hp (y := y) fun i hi => by
      have h := hs i hi
      rw [Int.add_emod, mz_mul' h0, Int.add_zero, Int.emod_emod] at h
      exact h
    rcases Nat.lt_or_ge c r with h | h
    · exact absurd (hz c h) hne
    · have : c = r := by omega
      subst this
      exact absurd h0 hne
  · obtain ⟨d, hd⟩ := hp.2 _ h0
    refine ⟨fun k => -d * y k, fun i hi => ?_⟩
    have h := hs i hi
    rw [sm_congr (g := fun k => -d * (A i k * y k)) fun k _ => by grind, sm_mul, mz_sub]
    have e : -d * (sm r fun k => A i k * y k) - b i = -d * ((sm r fun k => A i k * y k) + y r * b i) + (y r * d - 1) * b i := by grind
    rw [e]
    exact mz_add (mz_mul h _) (mz_mul' (by rw [Int.sub_emod, hd, ← hp.one]; simp) _)
section
variable {R : Nat → List Int} {st : ElE}
/-- the rows that count are free of one another -/
theorem ElOk.free (hp : HasInv p) (h : ElOk p n R m st) : Ind p n st.U.length fun k => lf (R (st.rows.getD k 0)) :=
  h.minor hp (fun l => l) (q := n) fun k hk => ⟨st.cols.getD k 0, (h.row k hk).2.2.1, rfl⟩
/-- each rest is made of the rows that count -/
theorem ElOk.rest_own (h : ElOk p n R m st) : ∀ t, t < st.U.length → Comb p n st.U.length (fun k => lf (R (st.rows.getD k 0))) (lf (st.U.getD t [])) := by
  intro t
  induction t using Nat.strongRecOn with
  | ind t ih =>
    intro ht
    have hone := h.one t (by rw [h.lr]; exact ht)
    have hlow := h.low t (by rw [h.lr]; exact ht)
    have h1 := Comb.one (p := p) (n := n) (fun k => lf (R (st.rows.getD k 0))) ht
    have h2 := Comb.sum (p := p) (n := n) (u := fun k => lf (R (st.rows.getD k 0))) (m := t) (w := fun s => lf (st.U.getD s [])) (fun s hs => ih s hs (by omega)) fun s => (st.C.getD (st.rows.getD t 0) []).getD s 0
    refine (Comb.add h1 h2 1 (-1)).congr fun j hj => ?_
    have hm := h.made _ hlow j hj
    rw [hone.1] at hm
    have e : (sm (t + 1) fun s => (st.C.getD (st.rows.getD t 0) []).getD s 0 * (st.U.getD s []).getD j 0) = (sm t fun s => (st.C.getD (st.rows.getD t 0) []).getD s 0 * lf (st.U.getD s []) j) + (st.U.getD t []).getD j 0 := by
      show _ + (st.C.getD (st.rows.getD t 0) []).getD t 0 * (st.U.getD t []).getD j 0 = _
      rw [hone.2, Int.one_mul]; rfl
    rw [e] at hm
    have hm' : lf (R (st.rows.getD t 0)) j % p = ((sm t fun s => (st.C.getD (st.rows.getD t 0) []).getD s 0 * lf (st.U.getD s []) j) + lf (st.U.getD t []) j) % p := hm
    rw [mz_sub] at hm' ⊢
    have e2 : lf (st.U.getD t []) j - (1 * lf (R (st.rows.getD t 0)) j + -1 * sm t fun s => (st.C.getD (st.rows.getD t 0) []).getD s 0 * lf (st.U.getD s []) j) = -(lf (R (st.rows.getD t 0)) j - ((sm t fun s => (st.C.getD (st.rows.getD t 0) []).getD s 0 * lf (st.U.getD s []) j) + lf (st.U.getD t []) j)) := by grind
    rw [e2]
    exact mz_neg hm'
/-- .. and so is each row -/
theorem ElOk.row_own (hp : HasInv p) (h : ElOk p n R m st) {i : Nat} (hi : i < m) : Comb p n st.U.length (fun k => lf (R (st.rows.getD k 0))) (lf (R i)) :=
  ((h.bas hp).gen i hi).trans fun t ht => h.rest_own t ht

/-- a vector of the own columns' numbers -/
def putV (cols : List Nat) (x' : Nat → Int) : Nat → Int := fun j => sm cols.length fun l => if j = cols.getD l 0 then x' l else 0
theorem putV_off {cols : List Nat} {x' : Nat → Int} {j : Nat} (hj : j ∉ cols) : putV cols x' j = 0 := sm_zero fun l hl => by
  rw [if_neg (fun e => hj (by rw [e, List.getD, List.getElem?_eq_getElem hl]; exact List.getElem_mem hl))]
theorem putV_sum {cols : List Nat} {x' : Nat → Int} (hb : ∀ c ∈ cols, c < n) (a : Nat → Int) : (sm n fun j => a j * putV cols x' j) = sm cols.length fun l => a (cols.getD l 0) * x' l := by
  unfold putV
  rw [sm_congr (g := fun j => sm cols.length fun l => a j * if j = cols.getD l 0 then x' l else 0) fun j _ => (sm_mul _ _ _).symm, sm_comm]
  refine sm_congr fun l hl => ?_
  have hc : cols.getD l 0 < n := hb _ (by rw [List.getD, List.getElem?_eq_getElem hl]; exact List.getElem_mem hl)
  rw [sm_congr (g := fun j => if j = cols.getD l 0 then a j * x' l else 0) fun j _ => by
    by_cases e : j = cols.getD l 0
    · rw [if_pos e, if_pos e]
    · rw [if_neg e, if_neg e, Int.mul_zero]]
  exact sm_single (fun j => a j * x' l) hc
/-- what a matrix makes of a vector, on row i -/
def appF (n : Nat) (R : Nat → List Int) (x : Nat → Int) (i : Nat) : Int := sm n fun j => (R i).getD j 0 * x j
/-- what is right on the rows that count is right on all, if anything is -/
theorem ElOk.all_rows (hp : HasInv p) (h : ElOk p n R m st) {x x0 : Nat → Int} (hk : ∀ k, k < st.U.length → appF n R x (st.rows.getD k 0) % p = appF n R x0 (st.rows.getD k 0) % p) {i : Nat} (hi : i < m) : appF n R x i % p = appF n R x0 i % p := by
  obtain ⟨c, hc⟩ := h.row_own hp hi
  have key : ∀ z : Nat → Int, appF n R z i % p = (sm st.U.length fun k => c k * appF n R z (st.rows.getD k 0)) % p := fun z => by
    have e1 : appF n R z i % p = (sm n fun j => (sm st.U.length fun k => c k * lf (R (st.rows.getD k 0)) j) * z j) % p := sm_mod fun j hj => by
      rw [← mm_l, show (R i).getD j 0 % p = (sm st.U.length fun k => c k * lf (R (st.rows.getD k 0)) j) % p from hc j hj, mm_l]
    rw [e1]
    refine congrArg (· % p) ?_
    rw [sm_congr (g := fun j => sm st.U.length fun k => c k * ((R (st.rows.getD k 0)).getD j 0 * z j)) fun j _ => by
      rw [← sm_mul_r]
      exact sm_congr fun k _ => by rw [Int.mul_assoc]; rfl, sm_comm]
    exact sm_congr fun k _ => sm_mul _ _ _
  rw [key x, key x0]
  exact sm_mod fun k hk' => by rw [← mm_r, hk k hk', mm_r]
/-- the rows that count, in the own columns: free -/
theorem ElOk.core (hp : HasInv p) (h : ElOk p n R m st) : Ind p st.U.length st.U.length fun i l => (R (st.rows.getD i 0)).getD (st.cols.getD l 0) 0 :=
  h.minor hp (fun l => st.cols.getD l 0) fun k hk => ⟨k, hk, rfl⟩
/-- there is something that is 0 outside the own columns, and right on the rows that count -/
theorem ElOk.own_sol (hp : HasInv p) (h : ElOk p n R m st) (b : Nat → Int) : ∃ x : Nat → Int, (∀ j, j ∉ st.cols → x j = 0) ∧ ∀ k, k < st.U.length → appF n R x (st.rows.getD k 0) % p = b (st.rows.getD k 0) % p := by
  obtain ⟨x', hx'⟩ := (h.core hp).surj hp fun k => b (st.rows.getD k 0)
  refine ⟨putV st.cols x', fun j hj => putV_off hj, fun k hk => ?_⟩
  unfold appF
  rw [putV_sum (fun c hc => h.cols_lt hc), h.lk]
  exact hx' k hk
/-- .. and nothing else is -/
theorem ElOk.own_one (hp : HasInv p) (h : ElOk p n R m st) {x y : Nat → Int} (hx : ∀ j, j < n → j ∉ st.cols → x j % p = y j % p) (he : ∀ k, k < st.U.length → appF n R x (st.rows.getD k 0) % p = appF n R y (st.rows.getD k 0) % p) : ∀ j, j < n → x j % p = y j % p := by
  have hz := (h.core hp).inj hp (y := fun l => x (st.cols.getD l 0) - y (st.cols.getD l 0)) fun i hi => by
    have h1 := he i hi
    rw [mz_sub] at h1
    unfold appF at h1
    rw [show (sm n fun j => (R (st.rows.getD i 0)).getD j 0 * x j) - (sm n fun j => (R (st.rows.getD i 0)).getD j 0 * y j) = sm n fun j => (R (st.rows.getD i 0)).getD j 0 * (x j - y j) by
      rw [Int.sub_eq_add_neg, ← sm_neg, ← sm_add]
      exact sm_congr fun j _ => by grind] at h1
    have h2 : (sm n fun j => (R (st.rows.getD i 0)).getD j 0 * (x j - y j)) % p = (sm n fun j => (R (st.rows.getD i 0)).getD j 0 * putV st.cols (fun l => x (st.cols.getD l 0) - y (st.cols.getD l 0)) j) % p := sm_mod fun j hj => by
      by_cases hc : j ∈ st.cols
      · obtain ⟨l, hl, e⟩ := List.getElem_of_mem hc
        have e' : st.cols.getD l 0 = j := by rw [List.getD, List.getElem?_eq_getElem hl]; exact e
        have hinj : ∀ l', l' < st.cols.length → (j = st.cols.getD l' 0 ↔ l' = l) := fun l' hl' => by
          constructor
          · intro e2
            exact h.ech.inj (show l' < _ by rw [← h.lk]; exact hl') (by rw [← h.lk]; exact hl) (e2.symm.trans e'.symm)
          · intro e2; rw [e2, e']
        unfold putV
        rw [sm_congr (g := fun l' => if l' = l then x (st.cols.getD l' 0) - y (st.cols.getD l' 0) else 0) fun l' hl' => by
          by_cases e2 : l' = l
          · rw [if_pos ((hinj l' hl').2 e2), if_pos e2]
          · rw [if_neg (fun e3 => e2 ((hinj l' hl').1 e3)), if_neg e2], sm_single (fun l' => x (st.cols.getD l' 0) - y (st.cols.getD l' 0)) hl, e']
      · rw [putV_off hc, Int.mul_zero]
        rw [mz_mul (mz_sub.1 (hx j hj hc))]
        simp
    rw [h2, putV_sum (fun c hc => h.cols_lt hc), h.lk] at h1
    exact h1
  intro j hj
  by_cases hc : j ∈ st.cols
  · obtain ⟨l, hl, e⟩ := List.getElem_of_mem hc
    have := hz l (by rw [← h.lk]; exact hl)
    rw [show st.cols.getD l 0 = j by rw [List.getD, List.getElem?_eq_getElem hl]; exact e] at this
    exact mz_sub.2 this
  · exact hx j hj hc
end
end Go.Proofs.YtijpeepdedfhoaaGreat
/- Solutions, kernels, rows that are made of others, and what is against: of right matrices over a field, as lists (in plain Lean; nothing of a program). -/
namespace Go.Proofs.YtijpeepdedfhoaaGreat
variable {p : Int} {m n : Nat} {xs : List Int}

/-- a vector's numbers, modulo p -/
def ofF (p : Int) (n : Nat) (z : Nat → Int) : List Int := tab n fun j => z j % p
theorem ofF_len (z : Nat → Int) : (ofF p n z).length = n := tab_len _ _
theorem ofF_get {z : Nat → Int} {j : Nat} (hj : j < n) : (ofF p n z).getD j 0 = z j % p := tab_get _ hj
theorem ofF_rng (hp : 2 ≤ p) (z : Nat → Int) : Rng p (ofF p n z) := tab_rng fun _ _ => mod_range _ hp
/-- a list as a vector -/
def atV (x : List Int) : Nat → Int := fun j => x.getD j 0
theorem vec_ext {x y : List Int} (hp : 2 ≤ p) (hx : x.length = n) (hy : y.length = n) (rx : Rng p x) (ry : Rng p y) (h : ∀ j, j < n → atV x j % p = atV y j % p) : x = y :=
  list_ext (by rw [hx, hy]) fun j hj => by
    have := h j (by omega)
    unfold atV at this
    rwa [mod_small (rx.getD hp j).1 (rx.getD hp j).2, mod_small (ry.getD hp j).1 (ry.getD hp j).2] at this
theorem app_mod {R : Nat → List Int} {x y : Nat → Int} (h : ∀ j, j < n → x j % p = y j % p) (i : Nat) : appF n R x i % p = appF n R y i % p :=
  sm_mod fun j hj => by rw [← mm_r, h j hj, mm_r]
theorem times_get {x : List Int} {i : Nat} (hi : i < m) : (timesL p m n xs x).getD i 0 = appF n (rowOf n xs) (atV x) i % p := by
  unfold timesL
  rw [tab_get _ hi]
  exact congrArg (· % p) (sm_congr fun j hj => by rw [show (rowOf n xs i).getD j 0 = xs.getD (i * n + j) 0 from tab_get _ hj]; rfl)
/-- what a vector makes of a matrix's rows, at column k -/
def lefF (m : Nat) (R : Nat → List Int) (y : Nat → Int) (k : Nat) : Int := sm m fun i => y i * (R i).getD k 0
theorem left_get {y : List Int} {k : Nat} (hk : k < n) : (leftL p m n xs y).getD k 0 = lefF m (rowOf n xs) (atV y) k % p := by
  unfold leftL
  rw [tab_get _ hk]
  exact congrArg (· % p) (sm_congr fun i _ => by rw [show (rowOf n xs i).getD k 0 = xs.getD (i * n + k) 0 from tab_get _ hk, Int.mul_comm]; rfl)
theorem times_eq {x b : List Int} (hp : 2 ≤ p) (hb : b.length = m) (hr : Rng p b) (h : ∀ i, i < m → appF n (rowOf n xs) (atV x) i % p = atV b i % p) : timesL p m n xs x = b :=
  list_ext (by rw [timesL_len, hb]) fun i hi => by
    rw [timesL_len] at hi
    rw [times_get hi, h i hi]
    exact mod_small (hr.getD hp i).1 (hr.getD hp i).2
theorem zeros_rng (hp : 2 ≤ p) (k : Nat) : Rng p (List.replicate k 0) := fun x hx => by rw [List.eq_of_mem_replicate hx]; omega
theorem left_zero {y : List Int} (h : ∀ k, k < n → lefF m (rowOf n xs) (atV y) k % p = 0) : leftL p m n xs y = List.replicate n 0 :=
  list_ext (by rw [leftL_len, List.length_replicate]) fun k hk => by
    rw [leftL_len] at hk
    rw [left_get hk, h k hk, replicate_get]

/-! ### solutions -/
/-- a solution that is 0 outside the own columns -/
structure IsX (p : Int) (m n : Nat) (xs b x : List Int) : Prop where
  len : x.length = n
  rng : Rng p x
  sol : timesL p m n xs x = b
  off : ∀ j, j < n → j ∉ (takeL p m n xs).cols → x.getD j 0 = 0
theorem IsX.one {b x y : List Int} (ok : MatOk p m n xs) (hf : Fld p) (hx : IsX p m n xs b x) (hy : IsX p m n xs b y) : x = y := by
  have hp := (rightB_true ok.hp).1
  have h := takeL_ok (m := m) (n := n) hp hf ok.hx
  refine vec_ext hp hx.len hy.len hx.rng hy.rng (h.own_one (hf.has hp) (fun j hj hc => by unfold atV; rw [hx.off j hj hc, hy.off j hj hc]) fun k hk => ?_)
  have hl := h.low k (by rw [h.lr]; exact hk)
  have e1 := times_get (p := p) (n := n) (xs := xs) (x := x) hl
  have e2 := times_get (p := p) (n := n) (xs := xs) (x := y) hl
  rw [← e1, ← e2, hx.sol, hy.sol]
theorem IsX.of {b : List Int} (ok : MatOk p m n xs) (hf : Fld p) (hb : b.length = m) (hr : Rng p b) {x0 : Nat → Int} (h0 : ∀ i, i < m → appF n (rowOf n xs) x0 i % p = atV b i % p) : ∃ x, IsX p m n xs b x := by
  have hp := (rightB_true ok.hp).1
  have h := takeL_ok (m := m) (n := n) hp hf ok.hx
  obtain ⟨z, hz0, hz⟩ := h.own_sol (hf.has hp) (atV b)
  have hall : ∀ i, i < m → appF n (rowOf n xs) z i % p = atV b i % p := fun i hi =>
    (h.all_rows (hf.has hp) (x := z) (x0 := x0) (fun k hk => (hz k hk).trans (h0 _ (h.low k (by rw [h.lr]; exact hk))).symm) hi).trans (h0 i hi)
  refine ⟨ofF p n z, ofF_len _, ofF_rng hp _, times_eq hp hb hr fun i hi => ?_, fun j hj hc => by rw [ofF_get hj, hz0 j hc]; simp⟩
  rw [← hall i hi]
  exact app_mod (fun j hj => by unfold atV; rw [ofF_get hj, Int.emod_emod]) i
/-- whatever is made has a solution -/
theorem IsX.of_times {b x0 : List Int} (ok : MatOk p m n xs) (hf : Fld p) (h : timesL p m n xs x0 = b) : ∃ x, IsX p m n xs b x := by
  have hp := (rightB_true ok.hp).1
  refine IsX.of ok hf (by rw [← h, timesL_len]) (by rw [← h]; exact timesL_rng hp _ _ _ _) (x0 := atV x0) fun i hi => ?_
  rw [← h]
  unfold atV
  rw [times_get hi, Int.emod_emod]; rfl

/-! ### the kernel -/
/-- the first column that isn't own; n, if all are -/
def freeC (n : Nat) (cols : List Nat) : Nat := (List.range n).findIdx fun j => decide (j ∉ cols)
theorem freeC_le (n : Nat) (cols : List Nat) : freeC n cols ≤ n := by
  have := List.findIdx_le_length (xs := List.range n) (p := fun j => decide (j ∉ cols))
  rwa [List.length_range] at this
theorem freeC_low {cols : List Nat} {j : Nat} (h : j < freeC n cols) : j ∈ cols := by
  have hj : j < (List.range n).length := by rw [List.length_range]; exact Nat.lt_of_lt_of_le h (freeC_le n cols)
  have := List.not_of_lt_findIdx h
  simpa using this
theorem freeC_not {cols : List Nat} (h : freeC n cols < n) : freeC n cols ∉ cols := by
  have h' : (List.range n).findIdx (fun j => decide (j ∉ cols)) < (List.range n).length := by rw [List.length_range]; exact h
  have := List.findIdx_getElem (w := h')
  simp only [List.getElem_range, decide_eq_true_eq] at this
  exact this
theorem freeC_lt {cols : List Nat} (hn : cols.Nodup) (hb : ∀ c ∈ cols, c < n) : freeC n cols < n ↔ cols.length < n := by
  have h1 := offE_len hn hb
  constructor
  · intro h
    have : freeC n cols ∈ offE n cols := offE_mem.2 ⟨h, freeC_not h⟩
    have := List.length_pos_of_mem this
    omega
  · intro h
    rcases Nat.lt_or_ge (freeC n cols) n with c | c
    · exact c
    · exfalso
      have : offE n cols = [] := by
        rw [List.eq_nil_iff_forall_not_mem]
        intro l hl
        obtain ⟨h2, h3⟩ := offE_mem.1 hl
        exact h3 (freeC_low (n := n) (by omega))
      rw [this] at h1
      simp at h1
      omega
/-- what is taken to 0, 1 at the first column that isn't own -/
structure IsK (p : Int) (m n : Nat) (xs x : List Int) : Prop where
  len : x.length = n
  rng : Rng p x
  sol : timesL p m n xs x = List.replicate m 0
  free : x.getD (freeC n (takeL p m n xs).cols) 0 = 1
  off : ∀ j, j < n → j ∉ (takeL p m n xs).cols → j ≠ freeC n (takeL p m n xs).cols → x.getD j 0 = 0
theorem IsK.one {x y : List Int} (ok : MatOk p m n xs) (hf : Fld p) (hx : IsK p m n xs x) (hy : IsK p m n xs y) : x = y := by
  have hp := (rightB_true ok.hp).1
  have h := takeL_ok (m := m) (n := n) hp hf ok.hx
  refine vec_ext hp hx.len hy.len hx.rng hy.rng (h.own_one (hf.has hp) (fun j hj hc => ?_) fun k hk => ?_)
  · unfold atV
    by_cases e : j = freeC n (takeL p m n xs).cols
    · rw [e, hx.free, hy.free]
    · rw [hx.off j hj hc e, hy.off j hj hc e]
  · have hl := h.low k (by rw [h.lr]; exact hk)
    have e1 := times_get (p := p) (n := n) (xs := xs) (x := x) hl
    have e2 := times_get (p := p) (n := n) (xs := xs) (x := y) hl
    rw [← e1, ← e2, hx.sol, hy.sol]
theorem app_add (R : Nat → List Int) (x y : Nat → Int) (i : Nat) : appF n R (fun j => x j + y j) i = appF n R x i + appF n R y i := by
  unfold appF
  rw [← sm_add]
  exact sm_congr fun j _ => by grind
theorem IsK.of (ok : MatOk p m n xs) (hf : Fld p) (hr : (takeL p m n xs).U.length < n) : ∃ x, IsK p m n xs x := by
  have hp := (rightB_true ok.hp).1
  have h := takeL_ok (m := m) (n := n) hp hf ok.hx
  obtain ⟨f, hfe⟩ : ∃ f, freeC n (takeL p m n xs).cols = f := ⟨_, rfl⟩
  have hfn : f < n := by rw [← hfe]; exact (freeC_lt h.cols_nodup fun c hc => h.cols_lt hc).2 (by rw [h.lk]; exact hr)
  have hfc : f ∉ (takeL p m n xs).cols := by
    have := freeC_not (n := n) (cols := (takeL p m n xs).cols) (by rw [hfe]; exact hfn)
    rwa [hfe] at this
  let u : Nat → Int := fun j => if j = f then -1 else 0
  obtain ⟨z, hz0, hz⟩ := h.own_sol (hf.has hp) fun i => appF n (rowOf n xs) u i
  have hall : ∀ i, i < m → appF n (rowOf n xs) z i % p = appF n (rowOf n xs) u i % p := fun i hi => h.all_rows (hf.has hp) hz hi
  refine ⟨ofF p n fun j => z j + if j = f then 1 else 0, ofF_len _, ofF_rng hp _, times_eq hp (List.length_replicate ..) (zeros_rng hp m) fun i hi => ?_, ?_, fun j hj hc hne => ?_⟩
  · have e1 : appF n (rowOf n xs) (atV (ofF p n fun j => z j + if j = f then 1 else 0)) i % p = appF n (rowOf n xs) (fun j => z j + if j = f then 1 else 0) i % p := app_mod (fun j hj => by unfold atV; rw [ofF_get hj, Int.emod_emod]) i
    rw [e1, app_add, Int.add_emod, hall i hi, ← Int.add_emod, ← app_add]
    have e2 : appF n (rowOf n xs) (fun j => u j + if j = f then 1 else 0) i = 0 := sm_zero fun j _ => by
      by_cases e : j = f <;> simp [u, e]
    rw [e2]
    unfold atV
    rw [replicate_get]
  · rw [hfe, ofF_get hfn, hz0 f hfc, if_pos rfl]
    exact (hf.has hp).one
  · rw [hfe] at hne
    rw [ofF_get hj, hz0 j hc, if_neg hne]
    simp

/-! ### rows that are made of others -/
/-- what makes 0 of the rows: 1 at row i, and 0 at the others that don't count -/
structure IsY (p : Int) (m n : Nat) (xs : List Int) (i : Nat) (y : List Int) : Prop where
  len : y.length = m
  rng : Rng p y
  sol : leftL p m n xs y = List.replicate n 0
  own : y.getD i 0 = 1
  off : ∀ k, k < m → k ∉ (takeL p m n xs).rows → k ≠ i → y.getD k 0 = 0
theorem lef_add (R : Nat → List Int) (x y : Nat → Int) (k : Nat) : lefF m R (fun i => x i + y i) k = lefF m R x k + lefF m R y k := by
  unfold lefF
  rw [← sm_add]
  exact sm_congr fun i _ => by grind
theorem lef_put {rows : List Nat} {R : Nat → List Int} {c : Nat → Int} (hb : ∀ k ∈ rows, k < m) (j : Nat) : lefF m R (putV rows c) j = sm rows.length fun l => c l * (R (rows.getD l 0)).getD j 0 := by
  unfold lefF
  rw [sm_congr (g := fun i => (R i).getD j 0 * putV rows c i) fun i _ => Int.mul_comm _ _, putV_sum hb]
  exact sm_congr fun l _ => Int.mul_comm _ _
theorem ElOk.rows_lt {R : Nat → List Int} {st : ElE} (h : ElOk p n R m st) {k : Nat} (hk : k ∈ st.rows) : k < m := by
  obtain ⟨i, hi, rfl⟩ := List.getElem_of_mem hk
  have := h.low i hi
  rwa [List.getD, List.getElem?_eq_getElem hi] at this
theorem ElOk.rows_one {R : Nat → List Int} {st : ElE} (h : ElOk p n R m st) {i k : Nat} (hi : i < st.rows.length) (hk : k < st.rows.length) (e : st.rows.getD i 0 = st.rows.getD k 0) : i = k := by
  rcases Nat.lt_trichotomy i k with c | c | c
  · have := h.inc i k c hk; omega
  · exact c
  · have := h.inc k i c hi; omega
theorem putV_at {rows : List Nat} {c : Nat → Int} {l : Nat} (hl : l < rows.length) (hi : ∀ i k, i < rows.length → k < rows.length → rows.getD i 0 = rows.getD k 0 → i = k) : putV rows c (rows.getD l 0) = c l := by
  unfold putV
  rw [sm_congr (g := fun k => if k = l then c k else 0) fun k hk => by
    by_cases e : k = l
    · rw [if_pos (by rw [e]), if_pos e]
    · rw [if_neg (fun h => e (hi _ _ hl hk h).symm), if_neg e], sm_single c hl]
theorem IsY.of (ok : MatOk p m n xs) (hf : Fld p) {i : Nat} (hi : i < m) (hc : i ∉ (takeL p m n xs).rows) : ∃ y, IsY p m n xs i y := by
  have hp := (rightB_true ok.hp).1
  have h := takeL_ok (m := m) (n := n) hp hf ok.hx
  obtain ⟨c, hcc⟩ := h.row_own (hf.has hp) hi
  let z : Nat → Int := fun k => putV (takeL p m n xs).rows (fun l => -c l) k + if k = i then 1 else 0
  refine ⟨ofF p m z, ofF_len _, ofF_rng hp _, left_zero fun j hj => ?_, ?_, fun k hk hkc hki => ?_⟩
  · have e1 : lefF m (rowOf n xs) (atV (ofF p m z)) j % p = lefF m (rowOf n xs) z j % p := sm_mod fun k hk => by
      unfold atV
      rw [ofF_get hk, mm_l]
    have e2 : lefF m (rowOf n xs) (fun k => if k = i then 1 else 0) j = (rowOf n xs i).getD j 0 := by
      unfold lefF
      rw [sm_congr (g := fun k => if k = i then (rowOf n xs k).getD j 0 else 0) fun k _ => by by_cases e : k = i <;> simp [e]]
      exact sm_single (fun k => (rowOf n xs k).getD j 0) hi
    rw [e1, lef_add, lef_put (fun k hk => h.rows_lt hk), e2, h.lr]
    have e3 := mz_sub.1 (hcc j hj)
    have e4 : (sm (takeL p m n xs).U.length fun l => -c l * (rowOf n xs ((takeL p m n xs).rows.getD l 0)).getD j 0) = -(sm (takeL p m n xs).U.length fun l => c l * lf (rowOf n xs ((takeL p m n xs).rows.getD l 0)) j) := by
      rw [← sm_neg]
      exact sm_congr fun l _ => by rw [Int.neg_mul]; rfl
    rw [e4, Int.add_comm]
    exact e3
  · rw [ofF_get hi]
    show (putV (takeL p m n xs).rows (fun l => -c l) i + if i = i then 1 else 0) % p = 1
    rw [putV_off hc, if_pos rfl]
    exact (hf.has hp).one
  · rw [ofF_get hk]
    show (putV (takeL p m n xs).rows (fun l => -c l) k + if k = i then 1 else 0) % p = 0
    rw [putV_off hkc, if_neg hki]
    simp
/-- rows that count, and what makes 0 of them: 0 -/
theorem lef_own {z : Nat → Int} (ok : MatOk p m n xs) (hf : Fld p) (hz : ∀ k, k < m → k ∉ (takeL p m n xs).rows → z k % p = 0) (h0 : ∀ j, j < n → lefF m (rowOf n xs) z j % p = 0) : ∀ k, k < m → z k % p = 0 := by
  have hp := (rightB_true ok.hp).1
  have h := takeL_ok (m := m) (n := n) hp hf ok.hx
  have hfree := h.free (hf.has hp) (fun l => z ((takeL p m n xs).rows.getD l 0)) fun j hj => by
    have h1 := h0 j hj
    have e : lefF m (rowOf n xs) z j % p = lefF m (rowOf n xs) (putV (takeL p m n xs).rows fun l => z ((takeL p m n xs).rows.getD l 0)) j % p := sm_mod fun k hk => by
      by_cases hc : k ∈ (takeL p m n xs).rows
      · obtain ⟨l, hl, e⟩ := List.getElem_of_mem hc
        have e' : (takeL p m n xs).rows.getD l 0 = k := by rw [List.getD, List.getElem?_eq_getElem hl]; exact e
        have e2 := putV_at (c := fun l => z ((takeL p m n xs).rows.getD l 0)) hl fun i k hi hk => h.rows_one hi hk
        simp only [e'] at e2
        rw [e2]
      · rw [putV_off hc, Int.zero_mul, mz_mul' (hz k hk hc)]
        simp
    rw [e, lef_put (fun k hk => h.rows_lt hk), h.lr] at h1
    exact h1
  intro k hk
  by_cases hc : k ∈ (takeL p m n xs).rows
  · obtain ⟨l, hl, e⟩ := List.getElem_of_mem hc
    have e' : (takeL p m n xs).rows.getD l 0 = k := by rw [List.getD, List.getElem?_eq_getElem hl]; exact e
    have := hfree l (by rw [← h.lr]; exact hl)
    rwa [e'] at this
  · exact hz k hk hc
theorem IsY.one {i : Nat} {x y : List Int} (ok : MatOk p m n xs) (hf : Fld p) (hx : IsY p m n xs i x) (hy : IsY p m n xs i y) : x = y := by
  have hp := (rightB_true ok.hp).1
  refine vec_ext hp hx.len hy.len hx.rng hy.rng fun k hk => mz_sub.2 (lef_own ok hf (z := fun k => atV x k - atV y k) (fun k hk hc => ?_) (fun j hj => ?_) k hk)
  · unfold atV
    by_cases e : k = i
    · rw [e, hx.own, hy.own]; simp
    · rw [hx.off k hk hc e, hy.off k hk hc e]; simp
  · have e1 := left_get (p := p) (m := m) (xs := xs) (y := x) hj
    have e2 := left_get (p := p) (m := m) (xs := xs) (y := y) hj
    rw [hx.sol, replicate_get] at e1
    rw [hy.sol, replicate_get] at e2
    have e : lefF m (rowOf n xs) (fun k => atV x k - atV y k) j = lefF m (rowOf n xs) (atV x) j + -lefF m (rowOf n xs) (atV y) j := by
      unfold lefF
      rw [← sm_neg, ← sm_add]
      exact sm_congr fun k _ => by grind
    rw [e]
    exact mz_add e1.symm (mz_neg e2.symm)
end Go.Proofs.YtijpeepdedfhoaaGreat
/- What is against a right side; inverses: of right matrices over a field, as lists (in plain Lean; nothing of a program). -/
namespace Go.Proofs.YtijpeepdedfhoaaGreat
variable {p : Int} {m n : Nat} {xs : List Int}

/-- a row times a right side -/
def dotF (m : Nat) (y b : Nat → Int) : Int := sm m fun k => y k * b k
theorem lef_app (R : Nat → List Int) (y x : Nat → Int) : (sm n fun j => lefF m R y j * x j) = sm m fun i => y i * appF n R x i := by
  unfold lefF appF
  rw [sm_congr (g := fun j => sm m fun i => y i * ((R i).getD j 0 * x j)) fun j _ => by
    rw [← sm_mul_r]
    exact sm_congr fun i _ => by rw [Int.mul_assoc], sm_comm]
  exact sm_congr fun i _ => sm_mul _ _ _
theorem IsY.kill {i : Nat} {y : List Int} (hy : IsY p m n xs i y) (x : Nat → Int) : (sm m fun k => atV y k * appF n (rowOf n xs) x k) % p = 0 := by
  rw [← lef_app]
  refine sm_mz fun j hj => mz_mul' ?_ _
  have := left_get (p := p) (m := m) (xs := xs) (y := y) hj
  rw [hy.sol, replicate_get] at this
  exact this.symm
/-- where there is a solution nothing is against -/
theorem IsX.none {b x : List Int} (hx : IsX p m n xs b x) {i : Nat} {y : List Int} (hy : IsY p m n xs i y) : dotF m (atV y) (atV b) % p = 0 := by
  have h := hy.kill (atV x)
  have e : dotF m (atV y) (atV b) % p = (sm m fun k => atV y k * appF n (rowOf n xs) (atV x) k) % p := sm_mod fun k hk => by
    have h1 := times_get (p := p) (n := n) (xs := xs) (x := x) hk
    rw [hx.sol] at h1
    rw [← mm_r, show atV b k = b.getD k 0 from rfl, h1, Int.emod_emod, mm_r]
  rw [e, h]
/-- where nothing is against there is a solution -/
theorem IsX.or {b : List Int} (ok : MatOk p m n xs) (hf : Fld p) (hb : b.length = m) (hr : Rng p b) (h0 : ∀ i y, i < m → i ∉ (takeL p m n xs).rows → IsY p m n xs i y → dotF m (atV y) (atV b) % p = 0) : ∃ x, IsX p m n xs b x := by
  have hp := (rightB_true ok.hp).1
  have h := takeL_ok (m := m) (n := n) hp hf ok.hx
  obtain ⟨z, hz0, hz⟩ := h.own_sol (hf.has hp) (atV b)
  have hrow : ∀ k, k < m → k ∈ (takeL p m n xs).rows → appF n (rowOf n xs) z k % p = atV b k % p := fun k _ hk => by
    obtain ⟨l, hl, e⟩ := List.getElem_of_mem hk
    have := hz l (by rw [← h.lr]; exact hl)
    rwa [show (takeL p m n xs).rows.getD l 0 = k by rw [List.getD, List.getElem?_eq_getElem hl]; exact e] at this
  refine IsX.of ok hf hb hr (x0 := z) fun i hi => ?_
  by_cases hc : i ∈ (takeL p m n xs).rows
  · exact hrow i hi hc
  · obtain ⟨y, hy⟩ := IsY.of ok hf hi hc
    have h1 := hy.kill z
    have h2 := h0 i y hi hc hy
    have e : ((sm m fun k => atV y k * appF n (rowOf n xs) z k) - dotF m (atV y) (atV b)) % p = (appF n (rowOf n xs) z i - atV b i) % p := by
      unfold dotF
      rw [Int.sub_eq_add_neg, ← sm_neg, ← sm_add, sm_mod (g := fun k => if k = i then appF n (rowOf n xs) z i - atV b i else 0) fun k hk => ?_, sm_single (fun _ => appF n (rowOf n xs) z i - atV b i) hi]
      by_cases hki : k = i
      · subst hki
        rw [if_pos rfl, show atV y k = 1 from hy.own]
        congr 1
        omega
      · rw [if_neg hki]
        by_cases hkc : k ∈ (takeL p m n xs).rows
        · have h3 := mz_sub.1 (hrow k hk hkc)
          rw [show atV y k * appF n (rowOf n xs) z k + -(atV y k * atV b k) = atV y k * (appF n (rowOf n xs) z k - atV b k) by grind, mz_mul h3]
          simp
        · rw [show atV y k = 0 from hy.off k hk hkc hki]
          simp
    rw [mz_sub, ← e]
    have h3 := mz_add h1 (mz_neg h2)
    rwa [Int.sub_eq_add_neg]

/-! ### inverses -/
theorem mulL_assoc (a b c : List Int) : mulL p n n n a (mulL p n n n b c) = mulL p n n n (mulL p n n n a b) c := by
  unfold mulL
  refine grid_congr fun i k hi hk => ?_
  have h := dv_assoc (p := p) n n (fun j => a.getD (i * n + j) 0) (fun l => c.getD (l * n + k) 0) fun j l => b.getD (j * n + l) 0
  refine Eq.trans (dv_congr (fun _ _ => rfl) fun j hj => ?_) (h.trans (dv_congr (fun l hl => ?_) fun _ _ => rfl))
  · exact grid_get _ hj hk
  · exact (grid_get (fun i k => dv p n (fun j => a.getD (i * n + j) 0) fun j => b.getD (j * n + k) 0) hi hl).symm
/-- a matrix that makes One, behind -/
structure IsInv (p : Int) (n : Nat) (xs vs : List Int) : Prop where
  len : vs.length = n * n
  rng : Rng p vs
  one : mulL p n n n xs vs = oneL n
theorem mul_inj (ok : MatOk p n n xs) (hf : Fld p) (hr : (takeL p n n xs).U.length = n) {ys zs : List Int} (hy : ys.length = n * n) (hz : zs.length = n * n) (ry : Rng p ys) (rz : Rng p zs) (h : mulL p n n n xs ys = mulL p n n n xs zs) : ys = zs := by
  have hp := (rightB_true ok.hp).1
  have ho := takeL_ok (m := n) (n := n) hp hf ok.hx
  have hcols : ∀ j, j < n → j ∈ (takeL p n n xs).cols := fun j hj => by
    have hfc := (freeC_lt (n := n) ho.cols_nodup fun c hc => ho.cols_lt hc)
    rw [ho.lk, hr] at hfc
    have hle := freeC_le n (takeL p n n xs).cols
    have hge : n ≤ freeC n (takeL p n n xs).cols := Nat.le_of_not_lt fun hlt => by have := hfc.1 hlt; omega
    exact freeC_low (n := n) (by omega)
  refine vec_ext (n := n * n) hp hy hz ry rz fun t ht => ?_
  have hn : 1 ≤ n := ok.hn.1
  have hi : t / n < n := (Nat.div_lt_iff_lt_mul (by omega)).2 ht
  have hj : t % n < n := Nat.mod_lt _ (by omega)
  have e : t / n * n + t % n = t := by rw [Nat.mul_comm]; exact Nat.div_add_mod t n
  have key := ho.own_one (hf.has hp) (x := fun j => ys.getD (j * n + t % n) 0) (y := fun j => zs.getD (j * n + t % n) 0) (fun j hj' hc => absurd (hcols j hj') hc) fun k hk => by
    have hl := ho.low k (by rw [ho.lr]; exact hk)
    have g : ∀ ws : List Int, (mulL p n n n xs ws).getD ((takeL p n n xs).rows.getD k 0 * n + t % n) 0 = appF n (rowOf n xs) (fun j => ws.getD (j * n + t % n) 0) ((takeL p n n xs).rows.getD k 0) % p := fun ws => by
      rw [mulL, grid_get _ hl hj]
      exact congrArg (· % p) (sm_congr fun j hj' => by rw [show (rowOf n xs ((takeL p n n xs).rows.getD k 0)).getD j 0 = xs.getD ((takeL p n n xs).rows.getD k 0 * n + j) 0 from tab_get _ hj'])
    rw [← g ys, ← g zs, h]
  have := key (t / n) hi
  simp only [e] at this
  exact this
theorem IsInv.of (ok : MatOk p n n xs) (hf : Fld p) (hr : (takeL p n n xs).U.length = n) : ∃ vs, IsInv p n xs vs := by
  have hp := (rightB_true ok.hp).1
  have ho := takeL_ok (m := n) (n := n) hp hf ok.hx
  have hrows := inc_id (by rw [ho.lr, hr]) ho.inc ho.low
  have hex : ∀ k, ∃ x : Nat → Int, ∀ i, i < n → appF n (rowOf n xs) x i % p = (if i = k then 1 else 0) % p := fun k => by
    obtain ⟨z, _, hz⟩ := ho.own_sol (hf.has hp) fun i => if i = k then 1 else 0
    refine ⟨z, fun i hi => ?_⟩
    have := hz i (by rw [hr]; exact hi)
    rwa [hrows i hi] at this
  have hch : ∃ x : Nat → Nat → Int, ∀ k i, i < n → appF n (rowOf n xs) (x k) i % p = (if i = k then 1 else 0) % p := ⟨fun k => Classical.choose (hex k), fun k => Classical.choose_spec (hex k)⟩
  obtain ⟨x, hx⟩ := hch
  refine ⟨grid n n fun j k => x k j % p, grid_len _ _ _, grid_rng fun _ _ _ _ => mod_range _ hp, ?_⟩
  unfold mulL oneL
  refine grid_congr fun i k hi hk => ?_
  have e : dv p n (fun j => xs.getD (i * n + j) 0) (fun j => (grid n n fun j k => x k j % p).getD (j * n + k) 0) = appF n (rowOf n xs) (x k) i % p := by
    unfold dv appF
    refine sm_mod fun j hj => ?_
    show xs.getD (i * n + j) 0 * (grid n n fun j k => x k j % p).getD (j * n + k) 0 % p = (rowOf n xs i).getD j 0 * x k j % p
    rw [grid_get _ hj hk, mm_r, show (rowOf n xs i).getD j 0 = xs.getD (i * n + j) 0 from tab_get _ hj]
  rw [e, hx k i hi]
  split
  · exact (hf.has hp).one
  · simp
theorem IsInv.uniq {vs ws : List Int} (ok : MatOk p n n xs) (hf : Fld p) (hr : (takeL p n n xs).U.length = n) (h : IsInv p n xs vs) (h' : IsInv p n xs ws) : vs = ws := mul_inj ok hf hr h.len h'.len h.rng h'.rng (by rw [h.one, h'.one])
/-- .. and ahead -/
theorem IsInv.left {vs : List Int} (ok : MatOk p n n xs) (hf : Fld p) (hr : (takeL p n n xs).U.length = n) (h : IsInv p n xs vs) : mulL p n n n vs xs = oneL n := by
  have hp := (rightB_true ok.hp).1
  refine mul_inj ok hf hr (mulL_len _ _ _ _ _) (oneL_len n) (mulL_rng hp _ _ _ _ _) (oneL_rng hp n) ?_
  rw [mulL_assoc, h.one, one_mul ok.hl ok.hx, mul_one ok.hl ok.hx]
theorem det_one (n : Nat) : detF n (atF n (oneL n)) = 1 := by
  rw [← det_id n]
  unfold detF
  rw [show idF n = (List.range n).map eR from rfl]
  exact detF_congr n (A := atF n (oneL n)) (B := fun i => eR i) fun i j hi hj => by
    show (oneL n).getD (i * n + j) 0 = if j = i then 1 else 0
    rw [oneL, grid_get _ hi hj]
    by_cases e : i = j
    · rw [if_pos e, if_pos e.symm]
    · rw [if_neg e, if_neg (fun h => e h.symm)]
/-- an inverse's determinant is the determinant's inverse -/
theorem IsInv.det {vs : List Int} (ok : MatOk p n n xs) (hf : Fld p) (h : IsInv p n xs vs) : minv p (detF n (atF n xs) % p) = detF n (atF n vs) % p := by
  have hp := (rightB_true ok.hp).1
  have hd := det_product (n := n) (ys := vs) hp hf ok.hx
  rw [h.one, det_one, (hf.has hp).one] at hd
  exact minv_eq (mod_range _ hp).1 (mod_range _ hp).2 hd.symm
/-- a product's inverse -/
theorem IsInv.mul {ys us vs : List Int} (ok : MatOk p n n xs) (hu : IsInv p n xs us) (hv : IsInv p n ys vs) : IsInv p n (mulL p n n n xs ys) (mulL p n n n vs us) := by
  have hp := (rightB_true ok.hp).1
  refine ⟨mulL_len _ _ _ _ _, mulL_rng hp _ _ _ _ _, ?_⟩
  rw [← mulL_assoc, mulL_assoc ys, hv.one, one_mul hu.len hu.rng, hu.one]
end Go.Proofs.YtijpeepdedfhoaaGreat
/- A matrix's parts, and what is found by them number by number: forward, backward, and what makes 0 of a matrix (in plain Lean; nothing of a program). -/
namespace Go.Proofs.YtijpeepdedfhoaaGreat
variable {p : Int} {m n r : Nat}

/-- parts by which one can solve -/
structure Pt (p : Int) (m n r : Nat) (C U : List (List Int)) (R K : List Nat) : Prop where
  ok : CupOk p m n C U
  ur : U.length = r
  rr : R.length = r
  kr : K.length = r
  rlow : ∀ k, k < r → R.getD k 0 < m
  klow : ∀ k, k < r → K.getD k 0 < n
  one : ∀ k, k < r → (C.getD (R.getD k 0) []).getD k 0 = 1
  low : ∀ k t, k < r → k < t → (C.getD (R.getD k 0) []).getD t 0 = 0
  unit : ∀ k, k < r → unitB p ((U.getD k []).getD (K.getD k 0) 0) = true
  zero : ∀ k j, j < k → k < r → (U.getD k []).getD (K.getD j 0) 0 = 0
theorem getD_out_nil {l : List Int} {k : Nat} (h : l.length ≤ k) : l.getD k 0 = 0 := by
  rw [List.getD, List.getElem?_eq_none h]; rfl
theorem take_pt {xs : List Int} (ok : MatOk p m n xs) (hf : Fld p) : Pt p m n (takeL p m n xs).U.length ((takeL p m n xs).C.map (padL (takeL p m n xs).U.length)) (takeL p m n xs).U (takeL p m n xs).rows (takeL p m n xs).cols := by
  have hp := (rightB_true ok.hp).1
  have h := takeL_ok (m := m) (n := n) hp hf ok.hx
  have hlow := fun k (hk : k < (takeL p m n xs).U.length) => h.low k (by rw [h.lr]; exact hk)
  refine ⟨take_parts ok hf, rfl, h.lr, h.lk, hlow, fun k hk => (h.row k hk).2.2.1, fun k hk => ?_, fun k t hk ht => ?_, fun k hk => (h.row k hk).2.2.2.1, h.zero⟩
  · rw [map_getD (by rw [h.lc]; exact hlow k hk), padL_get]
    exact (h.one k (by rw [h.lr]; exact hk)).2
  · rw [map_getD (by rw [h.lc]; exact hlow k hk), padL_get]
    exact getD_out_nil (by rw [(h.one k (by rw [h.lr]; exact hk)).1]; omega)
theorem mod_back {s c : Int} (h0 : 0 ≤ c) (h1 : c < p) : (s + (c - s % p) % p) % p = c := by
  rw [Int.add_emod, Int.emod_emod, ← Int.add_emod, show s + (c - s % p) = c + (s - s % p) by omega, Int.add_emod, Int.sub_emod, Int.emod_emod, Int.sub_self, Int.zero_emod, Int.add_zero, Int.emod_emod]
  exact mod_small h0 h1
theorem sm_dif (f g : Nat → Int) (n : Nat) : sm n f - sm n g = sm n fun i => f i - g i := by
  rw [Int.sub_eq_add_neg, ← sm_neg, ← sm_add]
  exact sm_congr fun _ _ => (Int.sub_eq_add_neg).symm
theorem sm_set (a : Nat → Int) {l : List Int} (hl : l.length = r) {k : Nat} (hk : k < r) (x : Int) : (sm r fun t => a t * (l.set k x).getD t 0) = (sm r fun t => a t * l.getD t 0) + a k * (x - l.getD k 0) := by
  rw [← sm_single (fun t => a t * (x - l.getD t 0)) hk, ← sm_add]
  refine sm_congr fun t _ => ?_
  rw [set_get l k t x (by rw [hl]; exact hk)]
  by_cases e : k = t
  · subst e; rw [if_pos rfl, if_pos rfl, Int.mul_sub]; omega
  · rw [if_neg e, if_neg (fun h => e h.symm), Int.add_zero]
theorem Rng.set'' {l : List Int} (h : Rng p l) (i : Nat) {x : Int} (h0 : 0 ≤ x) (h1 : x < p) : Rng p (l.set i x) := fun y hy => by
  rcases List.mem_or_eq_of_mem_set hy with h2 | rfl
  · exact h y h2
  · exact ⟨h0, h1⟩
section
variable {C U : List (List Int)} {R K : List Nat}
theorem Pt.two (P : Pt p m n r C U R K) : 2 ≤ p := (rightB_true P.ok.hp).1
theorem Pt.r_one (P : Pt p m n r C U R K) {t k : Nat} (ht : t < k) (hk : k < r) : R.getD t 0 ≠ R.getD k 0 := fun e => by
  have h1 := P.low t k (by omega) ht
  rw [e, P.one k hk] at h1
  omega
theorem Pt.k_one (P : Pt p m n r C U R K) {t k : Nat} (ht : t < k) (hk : k < r) : K.getD t 0 ≠ K.getD k 0 := fun e => by
  have h1 := P.zero k t ht hk
  rw [e] at h1
  exact unit_zero P.two (P.unit k hk) h1
/-- what the rests must make, found from the rows that count, so far -/
structure Fwd (p : Int) (r : Nat) (C : List (List Int)) (R : List Nat) (b : List Int) (k : Nat) (l : List Int) : Prop where
  len : l.length = r
  rng : Rng p l
  off : ∀ t, k ≤ t → l.getD t 0 = 0
  dot : ∀ j, j < k → (sm r fun t => (C.getD (R.getD j 0) []).getD t 0 * l.getD t 0) % p = b.getD (R.getD j 0) 0
theorem Fwd.start (hp : 2 ≤ p) (b : List Int) : Fwd p r C R b 0 (List.replicate r 0) :=
  ⟨List.length_replicate, zeros_rng hp r, fun t _ => replicate_get r t, fun _ hj => absurd hj (Nat.not_lt_zero _)⟩
theorem Fwd.step (P : Pt p m n r C U R K) {b : List Int} (hb : Rng p b) {k : Nat} (hk : k < r) {l : List Int} (h : Fwd p r C R b k l) {s x : Int} (hs : (sm r fun t => (C.getD (R.getD k 0) []).getD t 0 * l.getD t 0) % p = s) (hx : (b.getD (R.getD k 0) 0 - s) % p = x) : Fwd p r C R b (k + 1) (l.set k x) := by
  have hx2 := mod_range (b.getD (R.getD k 0) 0 - s) P.two
  rw [hx] at hx2
  refine ⟨by rw [List.length_set]; exact h.len, h.rng.set'' k hx2.1 hx2.2, fun t ht => ?_, fun j hj => ?_⟩
  · rw [set_get l k t x (by rw [h.len]; exact hk), if_neg (by omega)]
    exact h.off t (by omega)
  · rw [sm_set _ h.len hk, h.off k (Nat.le_refl _), Int.sub_zero]
    rcases Nat.lt_or_ge j k with c | c
    · rw [P.low j k (by omega) c, Int.zero_mul, Int.add_zero]
      exact h.dot j c
    · obtain rfl : j = k := by omega
      have hb2 := hb.getD P.two (R.getD j 0)
      rw [P.one j hk, Int.one_mul, ← hx, ← hs]
      exact mod_back hb2.1 hb2.2
/-- a vector that does for the rests from k on -/
structure Bck (p : Int) (n r : Nat) (U : List (List Int)) (K : List Nat) (made x0 : List Int) (k : Nat) (x : List Int) : Prop where
  len : x.length = n
  rng : Rng p x
  own : ∀ t, t < k → x.getD (K.getD t 0) 0 = 0
  off : ∀ j, j ∉ K → x.getD j 0 = x0.getD j 0
  dot : ∀ t, k ≤ t → t < r → (sm n fun j => (U.getD t []).getD j 0 * x.getD j 0) % p = made.getD t 0
theorem Bck.start {made x0 : List Int} (hl : x0.length = n) (hr : Rng p x0) (h0 : ∀ t, t < r → x0.getD (K.getD t 0) 0 = 0) : Bck p n r U K made x0 r x0 :=
  ⟨hl, hr, h0, fun _ _ => rfl, fun t h1 h2 => absurd h2 (by omega)⟩
theorem Bck.step (P : Pt p m n r C U R K) {made x0 : List Int} (hm : Rng p made) {k : Nat} (hk : k < r) {x : List Int} (h : Bck p n r U K made x0 (k + 1) x) {s d q : Int} (hs : (sm n fun j => (U.getD k []).getD j 0 * x.getD j 0) % p = s) (hd : (made.getD k 0 - s) % p = d)
    (hq : d * minv p ((U.getD k []).getD (K.getD k 0) 0) % p = q) : Bck p n r U K made x0 k (x.set (K.getD k 0) q) := by
  have hp := P.two
  have hq2 := mod_range (d * minv p ((U.getD k []).getD (K.getD k 0) 0)) hp
  rw [hq] at hq2
  have hkn := P.klow k hk
  have hz : x.getD (K.getD k 0) 0 = 0 := h.own k (by omega)
  refine ⟨by rw [List.length_set]; exact h.len, h.rng.set'' _ hq2.1 hq2.2, fun t ht => ?_, fun j hj => ?_, fun t h1 h2 => ?_⟩
  · rw [set_get x _ _ q (by rw [h.len]; exact hkn), if_neg (fun e => P.k_one ht hk e.symm)]
    exact h.own t (by omega)
  · rw [set_get x _ _ q (by rw [h.len]; exact hkn), if_neg (fun e => hj (by rw [← e, List.getD, List.getElem?_eq_getElem (by rw [P.kr]; exact hk)]; exact List.getElem_mem _))]
    exact h.off j hj
  · rw [sm_set _ h.len hkn, hz, Int.sub_zero]
    rcases Nat.lt_or_ge k t with c | c
    · rw [P.zero t k c h2, Int.zero_mul, Int.add_zero]
      exact h.dot t c h2
    · obtain rfl : t = k := by omega
      have hu := P.unit t hk
      have hub := ((P.ok.u _ (getD_mem [] (show t < U.length by rw [P.ur]; exact hk))).2).getD hp (K.getD t 0)
      have hi := unit_inv p _ hp hub.1 hu
      have hb2 := hm.getD hp t
      have e : (U.getD t []).getD (K.getD t 0) 0 * q % p = d % p := by
        rw [← hq, mm_r, show (U.getD t []).getD (K.getD t 0) 0 * (d * minv p ((U.getD t []).getD (K.getD t 0) 0)) = d * ((U.getD t []).getD (K.getD t 0) 0 * minv p ((U.getD t []).getD (K.getD t 0) 0)) by grind, ← mm_r, hi, Int.mul_one]
      rw [Int.add_emod, e, ← Int.add_emod, ← hd, ← hs]
      exact mod_back hb2.1 hb2.2
/-- a row that makes 0 of the parts from k on -/
structure Unm (p : Int) (m r : Nat) (C : List (List Int)) (R : List Nat) (i k : Nat) (y : List Int) : Prop where
  len : y.length = m
  rng : Rng p y
  own : ∀ t, t < k → y.getD (R.getD t 0) 0 = 0
  at_ : y.getD i 0 = 1
  off : ∀ j, j ∉ R → j ≠ i → y.getD j 0 = 0
  dot : ∀ t, k ≤ t → t < r → (sm m fun j => (C.getD j []).getD t 0 * y.getD j 0) % p = 0
theorem unit_get {i j : Nat} (hi : i < m) : ((List.replicate m (0 : Int)).set i 1).getD j 0 = if i = j then 1 else 0 := by
  rw [set_get _ i j 1 (by rw [List.length_replicate]; exact hi), replicate_get]
theorem Unm.start (hp : 2 ≤ p) {i : Nat} (hi : i < m) (hc : i ∉ R) (hr : R.length = r) : Unm p m r C R i r ((List.replicate m 0).set i 1) := by
  refine ⟨by rw [List.length_set, List.length_replicate], (zeros_rng hp m).set'' i (by omega) (by omega), fun t ht => ?_, by rw [unit_get hi, if_pos rfl], fun j _ hne => ?_, fun t h1 h2 => absurd h2 (by omega)⟩
  · rw [unit_get hi, if_neg (fun e => hc (by rw [e, List.getD, List.getElem?_eq_getElem (by rw [hr]; exact ht)]; exact List.getElem_mem _))]
  · rw [unit_get hi, if_neg (fun e => hne e.symm)]
theorem Unm.step (P : Pt p m n r C U R K) {i : Nat} (hc : i ∉ R) {k : Nat} (hk : k < r) {y : List Int} (h : Unm p m r C R i (k + 1) y) {s x : Int} (hs : (sm m fun j => (C.getD j []).getD k 0 * y.getD j 0) % p = s) (hx : (0 - s) % p = x) : Unm p m r C R i k (y.set (R.getD k 0) x) := by
  have hp := P.two
  have hx2 := mod_range (0 - s) hp
  rw [hx] at hx2
  have hkm := P.rlow k hk
  have hmem : R.getD k 0 ∈ R := by rw [List.getD, List.getElem?_eq_getElem (by rw [P.rr]; exact hk)]; exact List.getElem_mem _
  have hz : y.getD (R.getD k 0) 0 = 0 := h.own k (by omega)
  refine ⟨by rw [List.length_set]; exact h.len, h.rng.set'' _ hx2.1 hx2.2, fun t ht => ?_, ?_, fun j hj hne => ?_, fun t h1 h2 => ?_⟩
  · rw [set_get y _ _ x (by rw [h.len]; exact hkm), if_neg (fun e => P.r_one ht hk e.symm)]
    exact h.own t (by omega)
  · rw [set_get y _ _ x (by rw [h.len]; exact hkm), if_neg (fun e => hc (by rw [← e]; exact hmem))]
    exact h.at_
  · rw [set_get y _ _ x (by rw [h.len]; exact hkm), if_neg (fun e => hj (by rw [← e]; exact hmem))]
    exact h.off j hj hne
  · rw [sm_set (fun j => (C.getD j []).getD t 0) h.len hkm, hz, Int.sub_zero]
    rcases Nat.lt_or_ge k t with c | c
    · rw [P.low k t hk c, Int.zero_mul, Int.add_zero]
      exact h.dot t c h2
    · obtain rfl : t = k := by omega
      rw [P.one t hk, Int.one_mul, ← hx, ← hs]
      exact mod_back (by omega) (by omega)
end
section
variable {xs : List Int}
theorem row_parts (ok : MatOk p m n xs) (hf : Fld p) {i j : Nat} (hi : i < m) (hj : j < n) : (rowOf n xs i).getD j 0 % p = (sm (takeL p m n xs).U.length fun t => (((takeL p m n xs).C.map (padL (takeL p m n xs).U.length)).getD i []).getD t 0 * ((takeL p m n xs).U.getD t []).getD j 0) % p := by
  have h := takeL_ok (m := m) (n := n) (rightB_true ok.hp).1 hf ok.hx
  rw [h.full hi hj, map_getD (by rw [h.lc]; exact hi)]
  exact congrArg (· % p) (sm_congr fun t _ => by rw [padL_get])
/-- what the rows make of a vector: what the parts make of what the rests make -/
theorem app_parts {Q : Nat → List Int} {c u : Nat → Nat → Int} (h : ∀ i j, i < m → j < n → (Q i).getD j 0 % p = (sm r fun t => c i t * u t j) % p) (x : Nat → Int) {i : Nat} (hi : i < m) : appF n Q x i % p = (sm r fun t => c i t * (sm n fun j => u t j * x j)) % p := by
  have e1 : appF n Q x i % p = (sm n fun j => (sm r fun t => c i t * u t j) * x j) % p := sm_mod fun j hj => by rw [← mm_l, h i j hi hj, mm_l]
  rw [e1]
  refine congrArg (· % p) ?_
  rw [sm_congr (g := fun j => sm r fun t => c i t * (u t j * x j)) fun j _ => by
    rw [← sm_mul_r]
    exact sm_congr fun t _ => by rw [Int.mul_assoc], sm_comm]
  exact sm_congr fun t _ => sm_mul _ _ _
theorem lef_parts {Q : Nat → List Int} {c u : Nat → Nat → Int} (h : ∀ i j, i < m → j < n → (Q i).getD j 0 % p = (sm r fun t => c i t * u t j) % p) (y : Nat → Int) {j : Nat} (hj : j < n) : lefF m Q y j % p = (sm r fun t => (sm m fun i => c i t * y i) * u t j) % p := by
  have e1 : lefF m Q y j % p = (sm m fun i => y i * sm r fun t => c i t * u t j) % p := sm_mod fun i hi => by rw [← mm_r, h i j hi hj, mm_r]
  rw [e1]
  refine congrArg (· % p) ?_
  rw [sm_congr (g := fun i => sm r fun t => c i t * y i * u t j) fun i _ => by
    rw [← sm_mul]
    exact sm_congr fun t _ => by grind, sm_comm]
  exact sm_congr fun t _ => sm_mul_r _ _ _
variable {C U : List (List Int)} {R K : List Nat}
theorem isX_of (ok : MatOk p m n xs) (hf : Fld p) {b made x : List Int} (hb : b.length = m) (hr : Rng p b)
    (hm : ∀ i, i < m → (sm (takeL p m n xs).U.length fun t => (((takeL p m n xs).C.map (padL (takeL p m n xs).U.length)).getD i []).getD t 0 * made.getD t 0) % p = b.getD i 0)
    (h : Bck p n (takeL p m n xs).U.length (takeL p m n xs).U (takeL p m n xs).cols made (List.replicate n 0) 0 x) : IsX p m n xs b x := by
  have hp := (rightB_true ok.hp).1
  refine ⟨h.len, h.rng, times_eq hp hb hr fun i hi => ?_, fun j _ hc => by rw [h.off j hc, replicate_get]⟩
  have hb2 := hr.getD hp i
  rw [app_parts (fun i j hi hj => row_parts ok hf hi hj) (atV x) hi]
  have e : (sm (takeL p m n xs).U.length fun t => (((takeL p m n xs).C.map (padL (takeL p m n xs).U.length)).getD i []).getD t 0 * (sm n fun j => ((takeL p m n xs).U.getD t []).getD j 0 * atV x j)) % p = (sm (takeL p m n xs).U.length fun t => (((takeL p m n xs).C.map (padL (takeL p m n xs).U.length)).getD i []).getD t 0 * made.getD t 0) % p :=
    sm_mod fun t ht => by
      have := h.dot t (Nat.zero_le _) ht
      rw [← mm_r, show (sm n fun j => ((takeL p m n xs).U.getD t []).getD j 0 * atV x j) % p = made.getD t 0 from this]
  rw [e, hm i hi]
  exact (mod_small hb2.1 hb2.2).symm
/-- where the rows that count find something that isn't right, nothing is -/
theorem isX_not (ok : MatOk p m n xs) (hf : Fld p) {b made : List Int} 
    (h : Fwd p (takeL p m n xs).U.length ((takeL p m n xs).C.map (padL (takeL p m n xs).U.length)) (takeL p m n xs).rows b (takeL p m n xs).U.length made)
    {i : Nat} (hi : i < m) (hne : (sm (takeL p m n xs).U.length fun t => (((takeL p m n xs).C.map (padL (takeL p m n xs).U.length)).getD i []).getD t 0 * made.getD t 0) % p ≠ b.getD i 0) : ¬ ∃ x, IsX p m n xs b x := fun ⟨x, hx⟩ => by
  have hp := (rightB_true ok.hp).1
  have P := take_pt ok hf
  obtain ⟨z, hz⟩ : ∃ z : Nat → Int, (fun t => sm n fun j => ((takeL p m n xs).U.getD t []).getD j 0 * atV x j) = z := ⟨_, rfl⟩
  have key : ∀ i, i < m → (sm (takeL p m n xs).U.length fun t => (((takeL p m n xs).C.map (padL (takeL p m n xs).U.length)).getD i []).getD t 0 * z t) % p = b.getD i 0 := fun i hi => by
    have h1 := times_get (p := p) (n := n) (xs := xs) (x := x) hi
    rw [hx.sol, app_parts (fun i j hi hj => row_parts ok hf hi hj) (atV x) hi] at h1
    rw [h1, ← hz]
  have hsame : ∀ t, t < (takeL p m n xs).U.length → made.getD t 0 % p = z t % p := by
    intro t
    induction t using Nat.strongRecOn with
    | ind t ih =>
      intro ht
      have h1 := h.dot t ht
      have h2 := key _ (P.rlow t ht)
      rw [← h2, mz_sub, sm_dif] at h1
      have e : (sm (takeL p m n xs).U.length fun s => (((takeL p m n xs).C.map (padL (takeL p m n xs).U.length)).getD ((takeL p m n xs).rows.getD t 0) []).getD s 0 * made.getD s 0 - (((takeL p m n xs).C.map (padL (takeL p m n xs).U.length)).getD ((takeL p m n xs).rows.getD t 0) []).getD s 0 * z s) % p = (sm (takeL p m n xs).U.length fun s => if s = t then made.getD s 0 - z s else 0) % p := sm_mod fun s hs => by
        rcases Nat.lt_trichotomy s t with c | c | c
        · rw [if_neg (by omega), ← Int.mul_sub, mz_mul (mz_sub.1 (ih s c hs))]; simp
        · subst c
          rw [if_pos rfl, P.one s ht, Int.one_mul, Int.one_mul]
        · rw [if_neg (by omega), P.low t s ht c]; simp
      rw [e, sm_single (fun s => made.getD s 0 - z s) ht] at h1
      exact mz_sub.2 h1
  apply hne
  rw [← key i hi]
  exact sm_mod fun t ht => by rw [← mm_r, hsame t ht, mm_r]
theorem isK_of (ok : MatOk p m n xs) (hf : Fld p) {x : List Int} (hr : freeC n (takeL p m n xs).cols < n)
    (h : Bck p n (takeL p m n xs).U.length (takeL p m n xs).U (takeL p m n xs).cols (List.replicate (takeL p m n xs).U.length 0) ((List.replicate n 0).set (freeC n (takeL p m n xs).cols) 1) 0 x) : IsK p m n xs x := by
  have hp := (rightB_true ok.hp).1
  refine ⟨h.len, h.rng, times_eq hp List.length_replicate (zeros_rng hp m) fun i hi => ?_, ?_, fun j _ hc hne => ?_⟩
  · rw [app_parts (fun i j hi hj => row_parts ok hf hi hj) (atV x) hi]
    unfold atV
    rw [replicate_get]
    have : (sm (takeL p m n xs).U.length fun t => (((takeL p m n xs).C.map (padL (takeL p m n xs).U.length)).getD i []).getD t 0 * (sm n fun j => ((takeL p m n xs).U.getD t []).getD j 0 * x.getD j 0)) % p = 0 := sm_mz fun t ht => mz_mul (by rw [h.dot t (Nat.zero_le _) ht, replicate_get]) _
    rw [this]; simp
  · rw [h.off _ (freeC_not hr), unit_get hr, if_pos rfl]
  · rw [h.off j hc, unit_get hr, if_neg (fun e => hne e.symm)]
theorem isY_of (ok : MatOk p m n xs) (hf : Fld p) {i : Nat} {y : List Int}
    (h : Unm p m (takeL p m n xs).U.length ((takeL p m n xs).C.map (padL (takeL p m n xs).U.length)) (takeL p m n xs).rows i 0 y) : IsY p m n xs i y := by
  refine ⟨h.len, h.rng, left_zero fun k hk => ?_, h.at_, fun k _ hc hne => h.off k hc hne⟩
  rw [lef_parts (fun i j hi hj => row_parts ok hf hi hj) (atV y) hk]
  exact sm_mz fun t ht => mz_mul' (h.dot t (Nat.zero_le _) ht) _
end
end Go.Proofs.YtijpeepdedfhoaaGreat
/- Package solve: what is asked of a right side; a matrix's parts in memory; the numbers that a list hasn't. -/
namespace Go.Proofs.YtijpeepdedfhoaaGreat
open Go.RowKit Go.Maps

/-- whole numbers of a list -/
def zL (l : List Nat) : List Int := l.map fun k : Nat => (k : Int)
theorem zL_len (l : List Nat) : (zL l).length = l.length := List.length_map _
theorem zL_get (l : List Nat) (k : Nat) : (zL l).getD k 0 = ((l.getD k 0 : Nat) : Int) := by
  simp only [zL, List.getD, List.getElem?_map]
  cases l[k]? <;> rfl
theorem offE_yes {R : List Nat} {k : Nat} (h : k ∈ R) : offE (k + 1) R = offE k R := by simp [offE, List.range_succ, List.filter_append, h]
theorem offE_no {R : List Nat} {k : Nat} (h : k ∉ R) : offE (k + 1) R = offE k R ++ [k] := by simp [offE, List.range_succ, List.filter_append, h]
theorem offE_le (R : List Nat) (k : Nat) : (offE k R).length ≤ k := by
  have := List.length_filter_le (fun i => decide (i ∉ R)) (List.range k)
  rwa [List.length_range] at this

set_option maxHeartbeats 1000000 in
theorem svIndex (v : Value) (R : List Nat) (x : Nat) (w : World) (hv : Ints .i64 w v (zL R)) (hl : R.length ≤ 64) : Calls Tryz.prog 121 #[v, .int .i64 x] w fun e w' => e = .returned (.int .i64 (if x ∈ R then (R.idxOf x : Int) else -1)) ∧ w = w' := by
  obtain ⟨L, hL⟩ : ∃ L : Int, (if x ∈ R then (R.idxOf x : Int) else -1) = L := ⟨_, rfl⟩
  rw [hL]
  have HL := hid hL
  obtain ⟨a, cap, rfl, k1, k2, k3⟩ := hv
  rw [zL_len] at k1 k3 ⊢
  have K3 := hid k3
  obtain ⟨n, en⟩ : ∃ n, R.length = n := ⟨_, rfl⟩
  have En := hid en
  rw [en] at k1 K3 hl ⊢
  clear k3 hL en
  go_enter Tryz.func121, Tryz.ntmps121
  go_wp2_with fail
  go_loopw [8] (fun iv wr => ∃ (j : Nat), iv = .int .i64 j ∧ j ≤ n ∧ Hid (∀ t, t < j → R.getD t 0 ≠ x) ∧ w = wr) (fun iv _ => n - (intOf iv).toNat)
  case atStart => exact ⟨0, rfl, Nat.zero_le _, hid (fun t ht => absurd ht (Nat.not_lt_zero _)), rfl⟩
  case round =>
    obtain ⟨j, rfl, hj, hz, rfl⟩ := hrel
    by_cases hlt : j < n
    · obtain ⟨b, off, rfl, hb, hc⟩ := K3.out (by omega)
      have g1 := hc j hlt
      rw [zL_get] at g1
      obtain ⟨y, ey⟩ : ∃ y, R.getD j 0 = y := ⟨_, rfl⟩
      rw [ey] at g1
      have Ey := hid ey
      clear ey hc
      by_cases c : x = y
      · have e0 : ((x : Int) == (y : Int)) = true := by simp [c]
        have hLj := hid (show L = (j : Int) by
          have hjl : j < R.length := by rw [En.out]; exact hlt
          have e1 : R[j] = x := by rw [c, ← Ey.out, List.getD, List.getElem?_eq_getElem hjl]; rfl
          have hmem : x ∈ R := by rw [← e1]; exact List.getElem_mem hjl
          rw [← HL.out, if_pos hmem]
          congr 1
          refine Nat.le_antisymm ?_ ?_
          · refine Nat.le_of_not_lt fun hlt2 => ?_
            have := List.not_of_lt_findIdx (xs := R) (p := fun z => z == x) (i := j) (by unfold List.idxOf at hlt2; exact hlt2)
            rw [e1] at this; simp at this
          · refine Nat.le_of_not_lt fun hlt2 => ?_
            have h2 := hz.out _ hlt2
            rw [List.getD, List.getElem?_eq_getElem (Nat.lt_trans hlt2 hjl)] at h2
            exact h2 (List.getElem_idxOf _))
        clear c
        go_wp2_with fail
        go_ret
        exact ⟨ret_int hLj.out.symm, rfl⟩
      · have e0 : ((x : Int) == (y : Int)) = false := by simp; omega
        have C := hid c
        clear c
        go_wp2_with fail
        go_roundw
        case rel =>
          refine ⟨j + 1, by go_num, by omega, hid (fun t ht => ?_), by trivial⟩
          by_cases e : t = j
          · rw [e, Ey.out]; exact fun h => C.out h.symm
          · exact hz.out t (by omega)
        case measure => simp [intOf]; omega
    · obtain rfl : n = j := by omega
      have hLj := hid (show L = -1 by
        rw [← HL.out, if_neg]
        intro hm
        obtain ⟨t, ht, e⟩ := List.getElem_of_mem hm
        have := hz.out t (by rw [← En.out]; exact ht)
        rw [List.getD, List.getElem?_eq_getElem ht] at this
        exact this e)
      go_wp2_with fail
      go_ret
      exact ⟨ret_int hLj.out.symm, rfl⟩
theorem svContains (v : Value) (R : List Nat) (x : Nat) (w : World) (hv : Ints .i64 w v (zL R)) (hl : R.length ≤ 64) : Calls Tryz.prog 116 #[v, .int .i64 x] w fun e w' => e = .returned (.bool (decide (x ∈ R))) ∧ w = w' := by
  have C := hid (svIndex v R x w hv hl)
  obtain ⟨a, cap, rfl, k1, k2, k3⟩ := hv
  clear k3
  by_cases h : x ∈ R
  · rw [if_pos h] at C
    rw [decide_eq_true h]
    obtain ⟨i, hi⟩ : ∃ i, R.idxOf x = i := ⟨_, rfl⟩
    rw [hi] at C
    have t0 : decide ((0 : Int) ≤ (i : Int)) = true := decide_eq_true (by omega)
    clear h hi
    go_enter Tryz.func116, Tryz.ntmps116
    go_wp2_with (go_at_call 121; refine C.out.mono ?_; rintro _ _ ⟨rfl, rfl⟩)
    go_ret
    exact ⟨ret_bool (by simp), rfl⟩
  · rw [if_neg h] at C
    rw [decide_eq_false h]
    clear h
    go_enter Tryz.func116, Tryz.ntmps116
    go_wp2_with (go_at_call 121; refine C.out.mono ?_; rintro _ _ ⟨rfl, rfl⟩)
    go_ret
    exact ⟨ret_bool (by simp), rfl⟩

set_option maxHeartbeats 1000000 in
theorem svOthers (v : Value) (R : List Nat) (m : Nat) (w : World) (hv : Ints .i64 w v (zL R)) (hl : R.length ≤ 64) (hm : m ≤ 64) : Calls Tryz.prog 109 #[v, .int .i64 m] w (RetI (zL (offE m R)) w) := by
  obtain ⟨i0, hi, hz0, hz1, hz2⟩ := info_parts info_i64p
  have C := hid fun (x : Nat) (W : World) (hW : Ext w W) => svContains v R x W (hv.ext hW) hl
  have HO := hid fun k => offE_le R k
  obtain ⟨a, cap, rfl, k1, k2, k3⟩ := hv
  rw [zL_len] at k1 C ⊢
  clear k3
  go_enter Tryz.func109, Tryz.ntmps109
  go_wp2_with fail
  go_loopw [8, 5] (fun iv rv wr => ∃ k n : Nat, iv = .int .i64 k ∧ k ≤ m ∧ n ≤ k ∧ Hid ((offE k R).length = n) ∧ Hid (wr.ownsRow w.heap.size 3 1 rv n ((zL (offE k R)).map (Value.int .i64))) ∧ Ext w wr) (fun iv _ _ => m - (intOf iv).toNat)
  case atStart => exact ⟨0, 0, rfl, Nat.zero_le _, Nat.le_refl _, hid rfl, hid (World.ownsRow_nil _ _ _ _), Ext.refl _⟩
  case round =>
    obtain ⟨k, n, rfl, hk, hn, hnl, hown, hxr⟩ := hrel
    have hsz := hxr.size
    by_cases hlt : k < m
    · have C2 := hid (C.out k wr hxr)
      by_cases hc : k ∈ R
      · rw [decide_eq_true hc] at C2
        have E := hid (offE_yes hc)
        clear hc
        go_wp2_with (go_at_call 116; refine C2.out.mono ?_; rintro _ _ ⟨rfl, rfl⟩)
        go_roundw
        case rel => exact ⟨k + 1, n, by go_num, by omega, by omega, hid (by rw [E.out]; exact hnl.out), hid (by rw [E.out]; exact hown.out), hxr⟩
        case measure => simp [intOf]; omega
      · rw [decide_eq_false hc] at C2
        have E := hid (offE_no hc)
        have happ := hid (show ((zL (offE k R)).map (Value.int .i64)) ++ [Value.int .i64 (k : Int)] = (zL (offE (k + 1) R)).map (Value.int .i64) by rw [E.out]; simp [zL])
        clear hc
        go_wp2_with (first
          | (go_at_call 116; refine C2.out.mono ?_; rintro _ _ ⟨rfl, rfl⟩)
          | (at_builtin; refine wpList_append_own _ rfl _ _ 109 rfl w.heap.size 3 i0 (.int .i64 0) 1 8 Tryz.underlying109 hi hz0 hz1 hz2 rfl (by decide) _ _ _ rfl (hown.out.alloc _) ⟨wr.heap.size, 0, none⟩ 1 1 [.int .i64 (k : Int)] rfl rfl (cells_new _ _ _ (by simp)) (by simp [Value.oneCell']) (by simp only [maxLen]; omega) (by omega) (by simp; omega) ?_; intro v' w6 hown6 hgrow6 hnil6) | fail)
        go_roundw
        case rel => exact ⟨k + 1, n + 1, by go_num, by omega, by omega, hid (by rw [E.out, List.length_append, hnl.out]; rfl), hid (by rw [← happ.out]; exact hown6), (hxr.alloc _).grown hgrow6 (fun t e => (hown.out.lt t e).1)⟩
        case measure => simp [intOf]; omega
    · obtain rfl : k = m := by omega
      obtain ⟨a5, c5, rfl, c52, hI⟩ := owns_ints hown.out
      have HI := hid hI
      clear hI c52 hown
      go_wp2_with fail
      go_ret
      exact ⟨_, rfl, HI.out, hxr⟩

set_option maxHeartbeats 1000000 in
theorem svBeside (p r c : Int) (v u : Value) (xs b : List Int) (w : World) (h0 : 0 ≤ p) (h1 : p ≤ 18446744073709551615) (hv : Ints .u64 w v xs) (hu : Ints .u64 w u b) (hb : U64s b) :
    Calls Tryz.prog 86 #[.int .u64 p, matV r c v, u] w (Ret (.bool (vecB p r b)) w) := by
  have H := hid fun (W : World) (hW : Ext w W) => has_any p u b W h0 h1 (hu.ext hW) hb
  obtain ⟨B, hB⟩ : ∃ B, hasB p b = B := ⟨_, rfl⟩
  unfold vecB matV
  rw [hB] at H ⊢
  obtain ⟨a, cap, rfl, k1, k2, k3⟩ := hv
  obtain ⟨a', cap', rfl, k1', k2', k3'⟩ := hu
  clear k3 k3' hB hb
  have hA := hid (Blk.new w 25 #[.int .i64 r, .int .i64 c, .slice a xs.length cap])
  obtain ⟨b0, b1, b2⟩ := hA.out.at3
  by_cases e : (b.length : Int) = r
  · have e0 : ((b.length : Int) == r) = true := by simp [e]
    rw [decide_eq_true e]
    clear e
    go_enter Tryz.func86, Tryz.ntmps86
    go_wp2_with (go_at_call 30; refine (H.out _ (by repeat (first | exact Ext.refl _ | assumption | refine Ext.drew ?_ | refine Ext.drewN ?_ _ | refine Ext.alloc ?_ _ | refine Ext.trans ?_ (by assumption)))).mono ?_; rintro _ _ ⟨rfl, rfl⟩)
    go_ret
    exact ⟨ret_bool (by simp), (by repeat (first | exact Ext.refl _ | assumption | refine Ext.drew ?_ | refine Ext.drewN ?_ _ | refine Ext.alloc ?_ _ | refine Ext.trans ?_ (by assumption)))⟩
  · have e0 : ((b.length : Int) == r) = false := by simp [e]
    rw [decide_eq_false e]
    clear e
    go_enter Tryz.func86, Tryz.ntmps86
    go_wp2_with fail
    go_ret
    exact ⟨ret_bool (by simp), (by repeat (first | exact Ext.refl _ | assumption | refine Ext.drew ?_ | refine Ext.drewN ?_ _ | refine Ext.alloc ?_ _ | refine Ext.trans ?_ (by assumption)))⟩

end Go.Proofs.YtijpeepdedfhoaaGreat
