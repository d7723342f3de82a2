/- What the texts Ref06c, CupO, SolM, SolL, KerM, FoM, Fo2, Fo3 show, in one text. -/
import Derived.Test.YtmcadgcfdlonoaaBun10
import Derived.Test.YtmcadgcfdlonoaaBun11
import Derived.Test.YtmcadgcfdlonoaaBun06
import Derived.StillTailTactics
import Derived.Test.YtmcadgcfdlonoaaBun14
import Derived.Test.YtmcadgcfdlonoaaBun13
import Derived.Test.YtmcadgcfdlonoaaBun01
import Derived.Deep.RegionLaw
import Derived.Test.YtmcadgcfdlonoaaBun07
/- The document's own answer of layer 6 that puts a matrix's rows in another order: Rows. -/
namespace Go.Proofs.Ytmcadgcfdlonoaa
open Go.RowKit Go.Maps

/-- a matrix's rows, in another order -/
def rowsL (p : List Int) (c : Nat) (xs : List Int) : List Int := grid p.length c fun i k => xs.getD ((p.getD i 0).toNat * c + k) 0
theorem rowsL_len (p : List Int) (c : Nat) (xs : List Int) : (rowsL p c xs).length = p.length * c := grid_len _ _ _
theorem tab_add {t d : Nat} {G : Nat → Int} {l : List Int} (hl : l.length = d) (h : ∀ j, j < d → l.getD j 0 = G (t + j)) : tab (t + d) G = tab t G ++ l := by
  symm
  refine tab_of (by rw [List.length_append, tab_len, hl]) fun k hk => ?_
  simp only [List.getD, List.getElem?_append, tab_len]
  split
  · rename_i h1
    exact tab_get G h1
  · have := h (k - t) (by omega)
    rwa [show t + (k - t) = k by omega] at this
/-- a slice's numbers as cells that are appended -/
theorem ints_news {k : IntKind} {w : World} {ad : Addr} {m c : Nat} {l : List Int} (h : Ints k w (.slice (some ad) m c) l) : ∀ j u, (l.map (Value.int k))[j]? = some u → w.cell? (ad.add j) = some u := by
  intro j u hj
  obtain ⟨a, cap, e, _, _, h3⟩ := h
  injection e with e1 _ _
  subst e1
  have hjl : j < l.length := by
    rcases Nat.lt_or_ge j l.length with h | h
    · exact h
    · rw [List.getElem?_eq_none (by simpa using h)] at hj; cases hj
  obtain ⟨b, off, e, hb, hcell⟩ := h3 (by omega)
  injection e with e
  subst e
  rw [show ((⟨b, off, none⟩ : Addr).add j) = ⟨b, off + j, none⟩ from Go.WideShapes.add_plain _ _ _, hcell j hjl]
  rw [List.getElem?_map, List.getElem?_eq_getElem hjl] at hj
  simp only [Option.map_some, Option.some.injEq] at hj
  rw [← hj]
  simp [List.getD, List.getElem?_eq_getElem hjl]
theorem ints_one {k : IntKind} {l : List Int} : ∀ u ∈ l.map (Value.int k), u.oneCell' = true := by
  intro u hu
  obtain ⟨q, _, rfl⟩ := List.mem_map.1 hu
  rfl
/-- numbers are appended, and the box told -/
theorem Bld.more {w0 w w' : World} {h base : Nat} {r c : Int} {rv v' : Value} {t t' : Nat} {G : Nat → Int} (b : Bld w0 w h base r c rv t G) (hown : w'.ownsRow base 22 1 v' t' ((tab t' G).map (Value.int .u64))) (hg : w.grownBy w' rv.ownBlock) :
    Bld w0 (w'.setCell ⟨h, 2, none⟩ v') h base r c v' t' G := by
  have hne : rv.ownBlock ≠ some h := by
    rcases ownsRow_blk b.own b.box (by decide) with e | e
    · rw [e]; simp
    · exact e
  have hb := b.box.grown hg hne
  have hne2 : v'.ownBlock ≠ some h := by
    rcases ownsRow_blk hown hb (by decide) with e | e
    · rw [e]; simp
    · exact e
  exact ⟨hb.set_ 2 v', hown.kept (setCell_grown _ _ _) (.inr hne2), (b.ext.grown hg fun k e => Nat.le_trans b.hb (b.own.lt k e).1).setCell b.hh _, b.hb, b.hh⟩

end Go.Proofs.Ytmcadgcfdlonoaa
/- Right matrices over a field: rows in another order, rows again, products, rows that are scaled or alike, as the laws of layer 7 ask for them (in plain Lean; nothing of a program). -/
namespace Go.Proofs.Ytmcadgcfdlonoaa
variable {p : Int} {m n k q : Nat} {xs ys o : List Int}

theorem rowOf_congr {xs ys : List Int} {i i' : Nat} (h : ∀ j, j < n → ys.getD (i * n + j) 0 = xs.getD (i' * n + j) 0) : rowOf n ys i = rowOf n xs i' := tab_congr h
theorem rowsL_rng (hp : 2 ≤ p) (hx : Rng p xs) : Rng p (rowsL o n xs) := grid_rng fun _ _ _ _ => hx.getD hp _
theorem rowOf_rows {i : Nat} (ho : Ord m o) (hi : i < m) : rowOf n (rowsL o n xs) i = rowOf n xs (o.getD i 0).toNat :=
  rowOf_congr fun j hj => by rw [rowsL, grid_get _ (by rw [ho.len]; exact hi) hj]
theorem rank_rows (hp : 2 ≤ p) (hf : Fld p) (hx : Rng p xs) (ho : Ord m o) : (takeL p m n (rowsL o n xs)).U.length = (takeL p m n xs).U.length := by
  have h1 := takeL_ok (m := m) (n := n) hp hf hx
  have h2 := takeL_some (m := m) (n := n) hp hf (rowsL_rng (o := o) (n := n) hp hx)
  rw [takeE_congr (R' := fun i => rowOf n xs (o.getD i 0).toNat) m fun i hi => rowOf_rows ho hi] at h2
  exact rank_order (hf.has hp) ho h1 (takeE_ok hp m (fun i _ => rowOf_rng hp hx _) h2)
theorem rowsF_congr {R R' : Nat → List Int} (h : ∀ i, i < n → R i = R' i) : rowsF n R = rowsF n R' := by
  unfold rowsF
  exact List.map_congr_left fun i hi => by rw [h i (List.mem_range.1 hi)]
theorem det_rows (ho : Ord n o) : detF n (atF n (rowsL o n xs)) = sgnL o * detF n (atF n xs) := by
  rw [← rowsF_det, ← rowsF_det, ← det_order ho]
  exact congrArg _ (rowsF_congr fun i hi => rowOf_rows ho hi)
theorem prof_again (hp : 2 ≤ p) (hf : Fld p) (hx : Rng p xs) (hl : xs.length = m * n) : profZ p (2 * m) n (xs ++ xs) = profZ p m n xs := by
  have hle : ∀ i j, i < m → j < n → i * n + j < m * n := fun i j hi hj => at_lt hi hj
  have h0 : ∀ i, i < m → rowOf n (xs ++ xs) i = rowOf n xs i := fun i hi => rowOf_congr fun j hj => by
    have := hle i j hi hj
    simp only [List.getD]
    rw [List.getElem?_append_left (by omega)]
  have h1 : ∀ i, i < m → rowOf n (xs ++ xs) (m + i) = rowOf n xs i := fun i hi => rowOf_congr fun j hj => by
    have e : (m + i) * n + j = m * n + (i * n + j) := by rw [Nat.add_mul, Nat.add_assoc]
    simp only [List.getD]
    rw [e, List.getElem?_append_right (by omega), hl, Nat.add_sub_cancel_left]
  obtain ⟨s, hs, hr⟩ := takeE_again (hf.has hp) (fun i _ => rowOf_rng hp hx i) h0 h1 (takeL_some (m := m) (n := n) hp hf hx) m (Nat.le_refl _)
  have h2 := takeL_some (m := 2 * m) (n := n) hp hf (rng_app hx hx)
  rw [show 2 * m = m + m by omega, hs] at h2
  injection h2 with h2
  unfold profZ
  rw [show 2 * m = m + m by omega, ← h2, hr]

/-! ### products -/
theorem Bas.congr {r : Nat} {M M' u : Nat → RowF} (B : Bas p n m r M u) (h : ∀ i j, i < m → j < n → M' i j % p = M i j % p) : Bas p n m r M' u :=
  ⟨B.ind, fun i hi => (B.gen i hi).congr fun j hj => h i j hi hj, fun k hk => (B.own k hk).trans fun i hi => (Comb.one M' hi).congr fun j hj => (h i j hi hj).symm⟩
theorem lf_mul {i j : Nat} (hi : i < m) (hj : j < q) : lf (rowOf q (mulL p m k q xs ys) i) j % p = mulF k (fun i => lf (rowOf k xs i)) (fun l => lf (rowOf q ys l)) i j % p := by
  rw [lf_row hj]
  show (mulL p m k q xs ys).getD (i * q + j) 0 % p = _
  rw [mulL, grid_get _ hi hj]
  unfold dv mulF
  rw [Int.emod_emod]
  exact congrArg (· % p) (sm_congr fun l hl => by
    show atF k xs i l * atF q ys l j = lf (rowOf k xs i) l * lf (rowOf q ys l) j
    rw [lf_row hl, lf_row hj])
theorem rank_mul (hp : 2 ≤ p) (hf : Fld p) (hx : Rng p xs) (hy : Rng p ys) :
    (takeL p m q (mulL p m k q xs ys)).U.length ≤ (takeL p m k xs).U.length ∧ (takeL p m q (mulL p m k q xs ys)).U.length ≤ (takeL p k q ys).U.length ∧
    (takeL p m k xs).U.length + (takeL p k q ys).U.length ≤ (takeL p m q (mulL p m k q xs ys)).U.length + k := by
  have hi := hf.has hp
  have hA := takeL_ok (m := m) (n := k) hp hf hx
  have A := hA.bas hi
  have B := (takeL_ok (m := k) (n := q) hp hf hy).bas hi
  have D := ((takeL_ok (m := m) (n := q) hp hf (mulL_rng hp m k q xs ys)).bas hi).congr (M' := mulF k (fun i => lf (rowOf k xs i)) fun l => lf (rowOf q ys l)) fun i j h1 h2 => (lf_mul h1 h2).symm
  exact ⟨Bas.mul_left hi D A, Bas.mul_right hi D B, rank_sylvester hi hA D B⟩
theorem detF_mod : ∀ (n : Nat) {A B : Nat → Nat → Int}, (∀ i j, i < n → j < n → A i j % p = B i j % p) → detF n A % p = detF n B % p
  | 0, _, _, _ => rfl
  | n + 1, A, B, h => by
    rw [detF_succ, detF_succ]
    refine sm_mod fun k hk => ?_
    have h1 := h 0 k (by omega) hk
    have h2 := detF_mod n (A := fun i j => A (i + 1) (skp k j)) (B := fun i j => B (i + 1) (skp k j)) fun i j hi hj => h _ _ (by omega) (skp_lt hj)
    rw [← mm_r, h2, mm_r, Int.mul_assoc, Int.mul_assoc, ← mm_r (sg k), ← mm_l (A 0 k), h1, mm_l, mm_r]
theorem det_product (hp : 2 ≤ p) (hf : Fld p) (hx : Rng p xs) : detF n (atF n (mulL p n n n xs ys)) % p = (detF n (atF n xs) % p) * (detF n (atF n ys) % p) % p := by
  have hi := hf.has hp
  have h := takeL_ok (m := n) (n := n) hp hf hx
  have h1 := det_mul hi h (B := rowOf n ys)
  have h2 := h.det hi
  rw [rowsF_det] at h1 h2
  have e : (rowsF n (rowOf n xs)).map (mulR n fun l => lf (rowOf n ys l)) = (List.range n).map fun i => mulR n (fun l => lf (rowOf n ys l)) (lf (rowOf n xs i)) := by
    unfold rowsF
    rw [List.map_map]; rfl
  rw [e] at h1
  have e2 : detF n (atF n (mulL p n n n xs ys)) % p = detN n ((List.range n).map fun i => mulR n (fun l => lf (rowOf n ys l)) (lf (rowOf n xs i))) % p := detF_mod n fun i j h3 h4 => by
    have := lf_mul (p := p) (k := n) (xs := xs) (ys := ys) h3 h4
    rw [lf_row h4] at this
    exact this
  rw [mm_r, e2, h1, h2, mm_l]
theorem rowOf_set {i : Nat} {x : Int → Int} (zs : List Int) (h1 : ∀ a b, a < n → b < n → zs.getD (a * n + b) 0 = if a = i then x (xs.getD (i * n + b) 0) else xs.getD (a * n + b) 0) : (∀ a, a < n → a ≠ i → rowOf n zs a = rowOf n xs a) ∧ (i < n → ∀ b, b < n → (rowOf n zs i).getD b 0 = x ((rowOf n xs i).getD b 0)) :=
  ⟨fun a ha hne => rowOf_congr fun b hb => by rw [h1 a b ha hb, if_neg hne], fun hi b hb => by
    have e1 : (rowOf n zs i).getD b 0 = zs.getD (i * n + b) 0 := tab_get _ hb
    have e2 : (rowOf n xs i).getD b 0 = xs.getD (i * n + b) 0 := tab_get _ hb
    rw [e1, e2, h1 i b hi hb, if_pos rfl]⟩
theorem det_scaled {i : Nat} {c : Int} {zs : List Int} (hi : i < n) (h : ∀ a b, a < n → b < n → zs.getD (a * n + b) 0 = if a = i then xs.getD (i * n + b) 0 * c % p else xs.getD (a * n + b) 0) : detF n (atF n zs) % p = detF n (atF n xs) % p * c % p := by
  obtain ⟨h1, h2⟩ := rowOf_set (x := fun y => y * c % p) zs h
  rw [← rowsF_det, ← rowsF_det, det_scale hi h1 (x := c) fun b hb => by rw [h2 hi b hb, Int.emod_emod], mm_l]
theorem det_twice {i j : Nat} {zs : List Int} (hi : i < n) (hj : j < n) (hij : i ≠ j) (h : ∀ b, b < n → zs.getD (i * n + b) 0 = zs.getD (j * n + b) 0) : detF n (atF n zs) = 0 := by
  rw [← rowsF_det]
  exact det_alike hi hj hij (rowOf_congr h)
end Go.Proofs.Ytmcadgcfdlonoaa
/- Square systems over a field; the rows that count, and what is made of them; solutions that are 0 outside a matrix's own columns (in plain Lean; nothing of a program). -/
namespace Go.Proofs.Ytmcadgcfdlonoaa
variable {p : Int} {m n r : Nat}

/-- what is taken to 0 by free rows, as many as columns, is 0 -/
theorem Ind.inj (hp : HasInv p) {A : Nat → RowF} (hA : Ind p r r A) {y : Nat → Int} (hy : ∀ i, i < r → (sm r fun k => A i k * y k) % p = 0) : ∀ k, k < r → y k % p = 0 := by
  intro c hc
  refine Classical.byContradiction fun hne => ?_
  obtain ⟨b, hb⟩ := hp.2 (y c) hne
  cases r with
  | zero => omega
  | succ r =>
    let e : Nat → RowF := fun k j => (if j = k then 1 else 0) - (if j = c then y k * b else 0)
    have hle := hA.le hp (s := r) (w := fun l => e (skp c l)) fun i hi => ⟨fun l => A i (skp c l), fun j hj => by
      have h1 := sm_skp (fun k => A i k * e k j) r c hc
      rw [h1]
      by_cases hjc : j = c
      · subst hjc
        have h2 : (sm (r + 1) fun k => if k = j then 0 else A i k * e k j) = (-b) * (sm (r + 1) fun k => A i k * y k) + A i j * (y j * b) := by
          have h3 : (sm (r + 1) fun k => if k = j then A i j * (y j * b) else 0) = A i j * (y j * b) := sm_single (fun _ => A i j * (y j * b)) hc
          rw [← h3, ← sm_mul, ← sm_add]
          refine sm_congr fun k _ => ?_
          by_cases hk : k = j
          · subst hk
            rw [if_pos rfl, if_pos rfl]
            grind
          · rw [if_neg hk, if_neg hk]
            simp only [e, if_neg (fun h : j = k => hk h.symm), if_pos]
            grind
        rw [h2, Int.add_emod, mz_mul (hy i hi), Int.zero_add, Int.emod_emod, ← mm_r, hb, Int.mul_one]
      · have h2 : (sm (r + 1) fun k => if k = c then 0 else A i k * e k j) = sm (r + 1) fun k => if k = j then A i k else 0 := sm_congr fun k _ => by
          by_cases hk : k = c
          · subst hk
            rw [if_pos rfl, if_neg (fun h => hjc h.symm)]
          · rw [if_neg hk]
            simp only [e, if_neg hjc]
            by_cases hkj : k = j
            · subst hkj; simp
            · rw [if_neg (fun h : j = k => hkj h.symm), if_neg hkj]; simp
        rw [h2, sm_single (fun k => A i k) hj]⟩
    omega
/-- free rows, as many as columns, take something to whatever is asked -/
theorem Ind.surj (hp : HasInv p) {A : Nat → RowF} (hA : Ind p r r A) (b : Nat → Int) : ∃ x : Nat → Int, ∀ i, i < r → (sm r fun k => A i k * x k) % p = b i % p := by
  obtain ⟨y, ⟨c, hc, hne⟩, hy⟩ := nontriv hp r (r + 1) (by omega) fun k l => if k = r then b l else A l k
  have hs : ∀ l, l < r → ((sm r fun k => A l k * y k) + y r * b l) % p = 0 := fun l hl => by
    have h := hy l hl
    have e : (sm (r + 1) fun k => y k * if k = r then b l else A l k) = (sm r fun k => A l k * y k) + y r * b l := by
      show (sm r fun k => y k * if k = r then b l else A l k) + (y r * if r = r then b l else A l r) = _
      rw [if_pos rfl, sm_congr (g := fun k => A l k * y k) fun k hk => by rw [if_neg (by omega), Int.mul_comm]]
    rwa [e] at h
  by_cases h0 : y r % p = 0
  · have hz := hA.inj hp (y := y) fun i hi => by
      have h := hs i hi
      rw [Int.add_emod, mz_mul' h0, Int.add_zero, Int.emod_emod] at h
      exact h
    rcases Nat.lt_or_ge c r with h | h
    · exact absurd (hz c h) hne
    · have : c = r := by omega
      subst this
      exact absurd h0 hne
  · obtain ⟨d, hd⟩ := hp.2 _ h0
    refine ⟨fun k => -d * y k, fun i hi => ?_⟩
    have h := hs i hi
    rw [sm_congr (g := fun k => -d * (A i k * y k)) fun k _ => by grind, sm_mul, mz_sub]
    have e : -d * (sm r fun k => A i k * y k) - b i = -d * ((sm r fun k => A i k * y k) + y r * b i) + (y r * d - 1) * b i := by grind
    rw [e]
    exact mz_add (mz_mul h _) (mz_mul' (by rw [Int.sub_emod, hd, ← hp.one]; simp) _)
section
variable {R : Nat → List Int} {st : ElE}
/-- the rows that count are free of one another -/
theorem ElOk.free (hp : HasInv p) (h : ElOk p n R m st) : Ind p n st.U.length fun k => lf (R (st.rows.getD k 0)) :=
  h.minor hp (fun l => l) (q := n) fun k hk => ⟨st.cols.getD k 0, (h.row k hk).2.2.1, rfl⟩
/-- each rest is made of the rows that count -/
theorem ElOk.rest_own (h : ElOk p n R m st) : ∀ t, t < st.U.length → Comb p n st.U.length (fun k => lf (R (st.rows.getD k 0))) (lf (st.U.getD t [])) := by
  intro t
  induction t using Nat.strongRecOn with
  | ind t ih =>
    intro ht
    have hone := h.one t (by rw [h.lr]; exact ht)
    have hlow := h.low t (by rw [h.lr]; exact ht)
    have h1 := Comb.one (p := p) (n := n) (fun k => lf (R (st.rows.getD k 0))) ht
    have h2 := Comb.sum (p := p) (n := n) (u := fun k => lf (R (st.rows.getD k 0))) (m := t) (w := fun s => lf (st.U.getD s [])) (fun s hs => ih s hs (by omega)) fun s => (st.C.getD (st.rows.getD t 0) []).getD s 0
    refine (Comb.add h1 h2 1 (-1)).congr fun j hj => ?_
    have hm := h.made _ hlow j hj
    rw [hone.1] at hm
    have e : (sm (t + 1) fun s => (st.C.getD (st.rows.getD t 0) []).getD s 0 * (st.U.getD s []).getD j 0) = (sm t fun s => (st.C.getD (st.rows.getD t 0) []).getD s 0 * lf (st.U.getD s []) j) + (st.U.getD t []).getD j 0 := by
      show _ + (st.C.getD (st.rows.getD t 0) []).getD t 0 * (st.U.getD t []).getD j 0 = _
      rw [hone.2, Int.one_mul]; rfl
    rw [e] at hm
    have hm' : lf (R (st.rows.getD t 0)) j % p = ((sm t fun s => (st.C.getD (st.rows.getD t 0) []).getD s 0 * lf (st.U.getD s []) j) + lf (st.U.getD t []) j) % p := hm
    rw [mz_sub] at hm' ⊢
    have e2 : lf (st.U.getD t []) j - (1 * lf (R (st.rows.getD t 0)) j + -1 * sm t fun s => (st.C.getD (st.rows.getD t 0) []).getD s 0 * lf (st.U.getD s []) j) = -(lf (R (st.rows.getD t 0)) j - ((sm t fun s => (st.C.getD (st.rows.getD t 0) []).getD s 0 * lf (st.U.getD s []) j) + lf (st.U.getD t []) j)) := by grind
    rw [e2]
    exact mz_neg hm'
/-- .. and so is each row -/
theorem ElOk.row_own (hp : HasInv p) (h : ElOk p n R m st) {i : Nat} (hi : i < m) : Comb p n st.U.length (fun k => lf (R (st.rows.getD k 0))) (lf (R i)) :=
  ((h.bas hp).gen i hi).trans fun t ht => h.rest_own t ht

/-- a vector of the own columns' numbers -/
def putV (cols : List Nat) (x' : Nat → Int) : Nat → Int := fun j => sm cols.length fun l => if j = cols.getD l 0 then x' l else 0
theorem putV_off {cols : List Nat} {x' : Nat → Int} {j : Nat} (hj : j ∉ cols) : putV cols x' j = 0 := sm_zero fun l hl => by
  rw [if_neg (fun e => hj (by rw [e, List.getD, List.getElem?_eq_getElem hl]; exact List.getElem_mem hl))]
theorem putV_sum {cols : List Nat} {x' : Nat → Int} (hb : ∀ c ∈ cols, c < n) (a : Nat → Int) : (sm n fun j => a j * putV cols x' j) = sm cols.length fun l => a (cols.getD l 0) * x' l := by
  unfold putV
  rw [sm_congr (g := fun j => sm cols.length fun l => a j * if j = cols.getD l 0 then x' l else 0) fun j _ => (sm_mul _ _ _).symm, sm_comm]
  refine sm_congr fun l hl => ?_
  have hc : cols.getD l 0 < n := hb _ (by rw [List.getD, List.getElem?_eq_getElem hl]; exact List.getElem_mem hl)
  rw [sm_congr (g := fun j => if j = cols.getD l 0 then a j * x' l else 0) fun j _ => by
    by_cases e : j = cols.getD l 0
    · rw [if_pos e, if_pos e]
    · rw [if_neg e, if_neg e, Int.mul_zero]]
  exact sm_single (fun j => a j * x' l) hc
/-- what a matrix makes of a vector, on row i -/
def appF (n : Nat) (R : Nat → List Int) (x : Nat → Int) (i : Nat) : Int := sm n fun j => (R i).getD j 0 * x j
/-- what is right on the rows that count is right on all, if anything is -/
theorem ElOk.all_rows (hp : HasInv p) (h : ElOk p n R m st) {x x0 : Nat → Int} (hk : ∀ k, k < st.U.length → appF n R x (st.rows.getD k 0) % p = appF n R x0 (st.rows.getD k 0) % p) {i : Nat} (hi : i < m) : appF n R x i % p = appF n R x0 i % p := by
  obtain ⟨c, hc⟩ := h.row_own hp hi
  have key : ∀ z : Nat → Int, appF n R z i % p = (sm st.U.length fun k => c k * appF n R z (st.rows.getD k 0)) % p := fun z => by
    have e1 : appF n R z i % p = (sm n fun j => (sm st.U.length fun k => c k * lf (R (st.rows.getD k 0)) j) * z j) % p := sm_mod fun j hj => by
      rw [← mm_l, show (R i).getD j 0 % p = (sm st.U.length fun k => c k * lf (R (st.rows.getD k 0)) j) % p from hc j hj, mm_l]
    rw [e1]
    refine congrArg (· % p) ?_
    rw [sm_congr (g := fun j => sm st.U.length fun k => c k * ((R (st.rows.getD k 0)).getD j 0 * z j)) fun j _ => by
      rw [← sm_mul_r]
      exact sm_congr fun k _ => by rw [Int.mul_assoc]; rfl, sm_comm]
    exact sm_congr fun k _ => sm_mul _ _ _
  rw [key x, key x0]
  exact sm_mod fun k hk' => by rw [← mm_r, hk k hk', mm_r]
/-- the rows that count, in the own columns: free -/
theorem ElOk.core (hp : HasInv p) (h : ElOk p n R m st) : Ind p st.U.length st.U.length fun i l => (R (st.rows.getD i 0)).getD (st.cols.getD l 0) 0 :=
  h.minor hp (fun l => st.cols.getD l 0) fun k hk => ⟨k, hk, rfl⟩
/-- there is something that is 0 outside the own columns, and right on the rows that count -/
theorem ElOk.own_sol (hp : HasInv p) (h : ElOk p n R m st) (b : Nat → Int) : ∃ x : Nat → Int, (∀ j, j ∉ st.cols → x j = 0) ∧ ∀ k, k < st.U.length → appF n R x (st.rows.getD k 0) % p = b (st.rows.getD k 0) % p := by
  obtain ⟨x', hx'⟩ := (h.core hp).surj hp fun k => b (st.rows.getD k 0)
  refine ⟨putV st.cols x', fun j hj => putV_off hj, fun k hk => ?_⟩
  unfold appF
  rw [putV_sum (fun c hc => h.cols_lt hc), h.lk]
  exact hx' k hk
/-- .. and nothing else is -/
theorem ElOk.own_one (hp : HasInv p) (h : ElOk p n R m st) {x y : Nat → Int} (hx : ∀ j, j < n → j ∉ st.cols → x j % p = y j % p) (he : ∀ k, k < st.U.length → appF n R x (st.rows.getD k 0) % p = appF n R y (st.rows.getD k 0) % p) : ∀ j, j < n → x j % p = y j % p := by
  have hz := (h.core hp).inj hp (y := fun l => x (st.cols.getD l 0) - y (st.cols.getD l 0)) fun i hi => by
    have h1 := he i hi
    rw [mz_sub] at h1
    unfold appF at h1
    rw [show (sm n fun j => (R (st.rows.getD i 0)).getD j 0 * x j) - (sm n fun j => (R (st.rows.getD i 0)).getD j 0 * y j) = sm n fun j => (R (st.rows.getD i 0)).getD j 0 * (x j - y j) by
      rw [Int.sub_eq_add_neg, ← sm_neg, ← sm_add]
      exact sm_congr fun j _ => by grind] at h1
    have h2 : (sm n fun j => (R (st.rows.getD i 0)).getD j 0 * (x j - y j)) % p = (sm n fun j => (R (st.rows.getD i 0)).getD j 0 * putV st.cols (fun l => x (st.cols.getD l 0) - y (st.cols.getD l 0)) j) % p := sm_mod fun j hj => by
      by_cases hc : j ∈ st.cols
      · obtain ⟨l, hl, e⟩ := List.getElem_of_mem hc
        have e' : st.cols.getD l 0 = j := by rw [List.getD, List.getElem?_eq_getElem hl]; exact e
        have hinj : ∀ l', l' < st.cols.length → (j = st.cols.getD l' 0 ↔ l' = l) := fun l' hl' => by
          constructor
          · intro e2
            exact h.ech.inj (show l' < _ by rw [← h.lk]; exact hl') (by rw [← h.lk]; exact hl) (e2.symm.trans e'.symm)
          · intro e2; rw [e2, e']
        unfold putV
        rw [sm_congr (g := fun l' => if l' = l then x (st.cols.getD l' 0) - y (st.cols.getD l' 0) else 0) fun l' hl' => by
          by_cases e2 : l' = l
          · rw [if_pos ((hinj l' hl').2 e2), if_pos e2]
          · rw [if_neg (fun e3 => e2 ((hinj l' hl').1 e3)), if_neg e2], sm_single (fun l' => x (st.cols.getD l' 0) - y (st.cols.getD l' 0)) hl, e']
      · rw [putV_off hc, Int.mul_zero]
        rw [mz_mul (mz_sub.1 (hx j hj hc))]
        simp
    rw [h2, putV_sum (fun c hc => h.cols_lt hc), h.lk] at h1
    exact h1
  intro j hj
  by_cases hc : j ∈ st.cols
  · obtain ⟨l, hl, e⟩ := List.getElem_of_mem hc
    have := hz l (by rw [← h.lk]; exact hl)
    rw [show st.cols.getD l 0 = j by rw [List.getD, List.getElem?_eq_getElem hl]; exact e] at this
    exact mz_sub.2 this
  · exact hx j hj hc
end
end Go.Proofs.Ytmcadgcfdlonoaa
/- Solutions, kernels, rows that are made of others, and what is against: of right matrices over a field, as lists (in plain Lean; nothing of a program). -/
namespace Go.Proofs.Ytmcadgcfdlonoaa
variable {p : Int} {m n : Nat} {xs : List Int}

/-- a vector's numbers, modulo p -/
def ofF (p : Int) (n : Nat) (z : Nat → Int) : List Int := tab n fun j => z j % p
theorem ofF_len (z : Nat → Int) : (ofF p n z).length = n := tab_len _ _
theorem ofF_get {z : Nat → Int} {j : Nat} (hj : j < n) : (ofF p n z).getD j 0 = z j % p := tab_get _ hj
theorem ofF_rng (hp : 2 ≤ p) (z : Nat → Int) : Rng p (ofF p n z) := tab_rng fun _ _ => mod_range _ hp
/-- a list as a vector -/
def atV (x : List Int) : Nat → Int := fun j => x.getD j 0
theorem vec_ext {x y : List Int} (hp : 2 ≤ p) (hx : x.length = n) (hy : y.length = n) (rx : Rng p x) (ry : Rng p y) (h : ∀ j, j < n → atV x j % p = atV y j % p) : x = y :=
  list_ext (by rw [hx, hy]) fun j hj => by
    have := h j (by omega)
    unfold atV at this
    rwa [mod_small (rx.getD hp j).1 (rx.getD hp j).2, mod_small (ry.getD hp j).1 (ry.getD hp j).2] at this
theorem app_mod {R : Nat → List Int} {x y : Nat → Int} (h : ∀ j, j < n → x j % p = y j % p) (i : Nat) : appF n R x i % p = appF n R y i % p :=
  sm_mod fun j hj => by rw [← mm_r, h j hj, mm_r]
theorem times_get {x : List Int} {i : Nat} (hi : i < m) : (timesL p m n xs x).getD i 0 = appF n (rowOf n xs) (atV x) i % p := by
  unfold timesL
  rw [tab_get _ hi]
  exact congrArg (· % p) (sm_congr fun j hj => by rw [show (rowOf n xs i).getD j 0 = xs.getD (i * n + j) 0 from tab_get _ hj]; rfl)
/-- what a vector makes of a matrix's rows, at column k -/
def lefF (m : Nat) (R : Nat → List Int) (y : Nat → Int) (k : Nat) : Int := sm m fun i => y i * (R i).getD k 0
theorem left_get {y : List Int} {k : Nat} (hk : k < n) : (leftL p m n xs y).getD k 0 = lefF m (rowOf n xs) (atV y) k % p := by
  unfold leftL
  rw [tab_get _ hk]
  exact congrArg (· % p) (sm_congr fun i _ => by rw [show (rowOf n xs i).getD k 0 = xs.getD (i * n + k) 0 from tab_get _ hk, Int.mul_comm]; rfl)
theorem times_eq {x b : List Int} (hp : 2 ≤ p) (hb : b.length = m) (hr : Rng p b) (h : ∀ i, i < m → appF n (rowOf n xs) (atV x) i % p = atV b i % p) : timesL p m n xs x = b :=
  list_ext (by rw [timesL_len, hb]) fun i hi => by
    rw [timesL_len] at hi
    rw [times_get hi, h i hi]
    exact mod_small (hr.getD hp i).1 (hr.getD hp i).2
theorem zeros_rng (hp : 2 ≤ p) (k : Nat) : Rng p (List.replicate k 0) := fun x hx => by rw [List.eq_of_mem_replicate hx]; omega
theorem left_zero {y : List Int} (h : ∀ k, k < n → lefF m (rowOf n xs) (atV y) k % p = 0) : leftL p m n xs y = List.replicate n 0 :=
  list_ext (by rw [leftL_len, List.length_replicate]) fun k hk => by
    rw [leftL_len] at hk
    rw [left_get hk, h k hk, replicate_get]

/-! ### solutions -/
/-- a solution that is 0 outside the own columns -/
structure IsX (p : Int) (m n : Nat) (xs b x : List Int) : Prop where
  len : x.length = n
  rng : Rng p x
  sol : timesL p m n xs x = b
  off : ∀ j, j < n → j ∉ (takeL p m n xs).cols → x.getD j 0 = 0
theorem IsX.one {b x y : List Int} (ok : MatOk p m n xs) (hf : Fld p) (hx : IsX p m n xs b x) (hy : IsX p m n xs b y) : x = y := by
  have hp := (rightB_true ok.hp).1
  have h := takeL_ok (m := m) (n := n) hp hf ok.hx
  refine vec_ext hp hx.len hy.len hx.rng hy.rng (h.own_one (hf.has hp) (fun j hj hc => by unfold atV; rw [hx.off j hj hc, hy.off j hj hc]) fun k hk => ?_)
  have hl := h.low k (by rw [h.lr]; exact hk)
  have e1 := times_get (p := p) (n := n) (xs := xs) (x := x) hl
  have e2 := times_get (p := p) (n := n) (xs := xs) (x := y) hl
  rw [← e1, ← e2, hx.sol, hy.sol]
theorem IsX.of {b : List Int} (ok : MatOk p m n xs) (hf : Fld p) (hb : b.length = m) (hr : Rng p b) {x0 : Nat → Int} (h0 : ∀ i, i < m → appF n (rowOf n xs) x0 i % p = atV b i % p) : ∃ x, IsX p m n xs b x := by
  have hp := (rightB_true ok.hp).1
  have h := takeL_ok (m := m) (n := n) hp hf ok.hx
  obtain ⟨z, hz0, hz⟩ := h.own_sol (hf.has hp) (atV b)
  have hall : ∀ i, i < m → appF n (rowOf n xs) z i % p = atV b i % p := fun i hi =>
    (h.all_rows (hf.has hp) (x := z) (x0 := x0) (fun k hk => (hz k hk).trans (h0 _ (h.low k (by rw [h.lr]; exact hk))).symm) hi).trans (h0 i hi)
  refine ⟨ofF p n z, ofF_len _, ofF_rng hp _, times_eq hp hb hr fun i hi => ?_, fun j hj hc => by rw [ofF_get hj, hz0 j hc]; simp⟩
  rw [← hall i hi]
  exact app_mod (fun j hj => by unfold atV; rw [ofF_get hj, Int.emod_emod]) i
/-- whatever is made has a solution -/
theorem IsX.of_times {b x0 : List Int} (ok : MatOk p m n xs) (hf : Fld p) (h : timesL p m n xs x0 = b) : ∃ x, IsX p m n xs b x := by
  have hp := (rightB_true ok.hp).1
  refine IsX.of ok hf (by rw [← h, timesL_len]) (by rw [← h]; exact timesL_rng hp _ _ _ _) (x0 := atV x0) fun i hi => ?_
  rw [← h]
  unfold atV
  rw [times_get hi, Int.emod_emod]; rfl

/-! ### the kernel -/
/-- the first column that isn't own; n, if all are -/
def freeC (n : Nat) (cols : List Nat) : Nat := (List.range n).findIdx fun j => decide (j ∉ cols)
theorem freeC_le (n : Nat) (cols : List Nat) : freeC n cols ≤ n := by
  have := List.findIdx_le_length (xs := List.range n) (p := fun j => decide (j ∉ cols))
  rwa [List.length_range] at this
theorem freeC_low {cols : List Nat} {j : Nat} (h : j < freeC n cols) : j ∈ cols := by
  have hj : j < (List.range n).length := by rw [List.length_range]; exact Nat.lt_of_lt_of_le h (freeC_le n cols)
  have := List.not_of_lt_findIdx h
  simpa using this
theorem freeC_not {cols : List Nat} (h : freeC n cols < n) : freeC n cols ∉ cols := by
  have h' : (List.range n).findIdx (fun j => decide (j ∉ cols)) < (List.range n).length := by rw [List.length_range]; exact h
  have := List.findIdx_getElem (w := h')
  simp only [List.getElem_range, decide_eq_true_eq] at this
  exact this
theorem freeC_lt {cols : List Nat} (hn : cols.Nodup) (hb : ∀ c ∈ cols, c < n) : freeC n cols < n ↔ cols.length < n := by
  have h1 := offE_len hn hb
  constructor
  · intro h
    have : freeC n cols ∈ offE n cols := offE_mem.2 ⟨h, freeC_not h⟩
    have := List.length_pos_of_mem this
    omega
  · intro h
    rcases Nat.lt_or_ge (freeC n cols) n with c | c
    · exact c
    · exfalso
      have : offE n cols = [] := by
        rw [List.eq_nil_iff_forall_not_mem]
        intro l hl
        obtain ⟨h2, h3⟩ := offE_mem.1 hl
        exact h3 (freeC_low (n := n) (by omega))
      rw [this] at h1
      simp at h1
      omega
/-- what is taken to 0, 1 at the first column that isn't own -/
structure IsK (p : Int) (m n : Nat) (xs x : List Int) : Prop where
  len : x.length = n
  rng : Rng p x
  sol : timesL p m n xs x = List.replicate m 0
  free : x.getD (freeC n (takeL p m n xs).cols) 0 = 1
  off : ∀ j, j < n → j ∉ (takeL p m n xs).cols → j ≠ freeC n (takeL p m n xs).cols → x.getD j 0 = 0
theorem IsK.one {x y : List Int} (ok : MatOk p m n xs) (hf : Fld p) (hx : IsK p m n xs x) (hy : IsK p m n xs y) : x = y := by
  have hp := (rightB_true ok.hp).1
  have h := takeL_ok (m := m) (n := n) hp hf ok.hx
  refine vec_ext hp hx.len hy.len hx.rng hy.rng (h.own_one (hf.has hp) (fun j hj hc => ?_) fun k hk => ?_)
  · unfold atV
    by_cases e : j = freeC n (takeL p m n xs).cols
    · rw [e, hx.free, hy.free]
    · rw [hx.off j hj hc e, hy.off j hj hc e]
  · have hl := h.low k (by rw [h.lr]; exact hk)
    have e1 := times_get (p := p) (n := n) (xs := xs) (x := x) hl
    have e2 := times_get (p := p) (n := n) (xs := xs) (x := y) hl
    rw [← e1, ← e2, hx.sol, hy.sol]
theorem app_add (R : Nat → List Int) (x y : Nat → Int) (i : Nat) : appF n R (fun j => x j + y j) i = appF n R x i + appF n R y i := by
  unfold appF
  rw [← sm_add]
  exact sm_congr fun j _ => by grind
theorem IsK.of (ok : MatOk p m n xs) (hf : Fld p) (hr : (takeL p m n xs).U.length < n) : ∃ x, IsK p m n xs x := by
  have hp := (rightB_true ok.hp).1
  have h := takeL_ok (m := m) (n := n) hp hf ok.hx
  obtain ⟨f, hfe⟩ : ∃ f, freeC n (takeL p m n xs).cols = f := ⟨_, rfl⟩
  have hfn : f < n := by rw [← hfe]; exact (freeC_lt h.cols_nodup fun c hc => h.cols_lt hc).2 (by rw [h.lk]; exact hr)
  have hfc : f ∉ (takeL p m n xs).cols := by
    have := freeC_not (n := n) (cols := (takeL p m n xs).cols) (by rw [hfe]; exact hfn)
    rwa [hfe] at this
  let u : Nat → Int := fun j => if j = f then -1 else 0
  obtain ⟨z, hz0, hz⟩ := h.own_sol (hf.has hp) fun i => appF n (rowOf n xs) u i
  have hall : ∀ i, i < m → appF n (rowOf n xs) z i % p = appF n (rowOf n xs) u i % p := fun i hi => h.all_rows (hf.has hp) hz hi
  refine ⟨ofF p n fun j => z j + if j = f then 1 else 0, ofF_len _, ofF_rng hp _, times_eq hp (List.length_replicate ..) (zeros_rng hp m) fun i hi => ?_, ?_, fun j hj hc hne => ?_⟩
  · have e1 : appF n (rowOf n xs) (atV (ofF p n fun j => z j + if j = f then 1 else 0)) i % p = appF n (rowOf n xs) (fun j => z j + if j = f then 1 else 0) i % p := app_mod (fun j hj => by unfold atV; rw [ofF_get hj, Int.emod_emod]) i
    rw [e1, app_add, Int.add_emod, hall i hi, ← Int.add_emod, ← app_add]
    have e2 : appF n (rowOf n xs) (fun j => u j + if j = f then 1 else 0) i = 0 := sm_zero fun j _ => by
      by_cases e : j = f <;> simp [u, e]
    rw [e2]
    unfold atV
    rw [replicate_get]
  · rw [hfe, ofF_get hfn, hz0 f hfc, if_pos rfl]
    exact (hf.has hp).one
  · rw [hfe] at hne
    rw [ofF_get hj, hz0 j hc, if_neg hne]
    simp

/-! ### rows that are made of others -/
/-- what makes 0 of the rows: 1 at row i, and 0 at the others that don't count -/
structure IsY (p : Int) (m n : Nat) (xs : List Int) (i : Nat) (y : List Int) : Prop where
  len : y.length = m
  rng : Rng p y
  sol : leftL p m n xs y = List.replicate n 0
  own : y.getD i 0 = 1
  off : ∀ k, k < m → k ∉ (takeL p m n xs).rows → k ≠ i → y.getD k 0 = 0
theorem lef_add (R : Nat → List Int) (x y : Nat → Int) (k : Nat) : lefF m R (fun i => x i + y i) k = lefF m R x k + lefF m R y k := by
  unfold lefF
  rw [← sm_add]
  exact sm_congr fun i _ => by grind
theorem lef_put {rows : List Nat} {R : Nat → List Int} {c : Nat → Int} (hb : ∀ k ∈ rows, k < m) (j : Nat) : lefF m R (putV rows c) j = sm rows.length fun l => c l * (R (rows.getD l 0)).getD j 0 := by
  unfold lefF
  rw [sm_congr (g := fun i => (R i).getD j 0 * putV rows c i) fun i _ => Int.mul_comm _ _, putV_sum hb]
  exact sm_congr fun l _ => Int.mul_comm _ _
theorem ElOk.rows_lt {R : Nat → List Int} {st : ElE} (h : ElOk p n R m st) {k : Nat} (hk : k ∈ st.rows) : k < m := by
  obtain ⟨i, hi, rfl⟩ := List.getElem_of_mem hk
  have := h.low i hi
  rwa [List.getD, List.getElem?_eq_getElem hi] at this
theorem ElOk.rows_one {R : Nat → List Int} {st : ElE} (h : ElOk p n R m st) {i k : Nat} (hi : i < st.rows.length) (hk : k < st.rows.length) (e : st.rows.getD i 0 = st.rows.getD k 0) : i = k := by
  rcases Nat.lt_trichotomy i k with c | c | c
  · have := h.inc i k c hk; omega
  · exact c
  · have := h.inc k i c hi; omega
theorem putV_at {rows : List Nat} {c : Nat → Int} {l : Nat} (hl : l < rows.length) (hi : ∀ i k, i < rows.length → k < rows.length → rows.getD i 0 = rows.getD k 0 → i = k) : putV rows c (rows.getD l 0) = c l := by
  unfold putV
  rw [sm_congr (g := fun k => if k = l then c k else 0) fun k hk => by
    by_cases e : k = l
    · rw [if_pos (by rw [e]), if_pos e]
    · rw [if_neg (fun h => e (hi _ _ hl hk h).symm), if_neg e], sm_single c hl]
theorem IsY.of (ok : MatOk p m n xs) (hf : Fld p) {i : Nat} (hi : i < m) (hc : i ∉ (takeL p m n xs).rows) : ∃ y, IsY p m n xs i y := by
  have hp := (rightB_true ok.hp).1
  have h := takeL_ok (m := m) (n := n) hp hf ok.hx
  obtain ⟨c, hcc⟩ := h.row_own (hf.has hp) hi
  let z : Nat → Int := fun k => putV (takeL p m n xs).rows (fun l => -c l) k + if k = i then 1 else 0
  refine ⟨ofF p m z, ofF_len _, ofF_rng hp _, left_zero fun j hj => ?_, ?_, fun k hk hkc hki => ?_⟩
  · have e1 : lefF m (rowOf n xs) (atV (ofF p m z)) j % p = lefF m (rowOf n xs) z j % p := sm_mod fun k hk => by
      unfold atV
      rw [ofF_get hk, mm_l]
    have e2 : lefF m (rowOf n xs) (fun k => if k = i then 1 else 0) j = (rowOf n xs i).getD j 0 := by
      unfold lefF
      rw [sm_congr (g := fun k => if k = i then (rowOf n xs k).getD j 0 else 0) fun k _ => by by_cases e : k = i <;> simp [e]]
      exact sm_single (fun k => (rowOf n xs k).getD j 0) hi
    rw [e1, lef_add, lef_put (fun k hk => h.rows_lt hk), e2, h.lr]
    have e3 := mz_sub.1 (hcc j hj)
    have e4 : (sm (takeL p m n xs).U.length fun l => -c l * (rowOf n xs ((takeL p m n xs).rows.getD l 0)).getD j 0) = -(sm (takeL p m n xs).U.length fun l => c l * lf (rowOf n xs ((takeL p m n xs).rows.getD l 0)) j) := by
      rw [← sm_neg]
      exact sm_congr fun l _ => by rw [Int.neg_mul]; rfl
    rw [e4, Int.add_comm]
    exact e3
  · rw [ofF_get hi]
    show (putV (takeL p m n xs).rows (fun l => -c l) i + if i = i then 1 else 0) % p = 1
    rw [putV_off hc, if_pos rfl]
    exact (hf.has hp).one
  · rw [ofF_get hk]
    show (putV (takeL p m n xs).rows (fun l => -c l) k + if k = i then 1 else 0) % p = 0
    rw [putV_off hkc, if_neg hki]
    simp
/-- rows that count, and what makes 0 of them: 0 -/
theorem lef_own {z : Nat → Int} (ok : MatOk p m n xs) (hf : Fld p) (hz : ∀ k, k < m → k ∉ (takeL p m n xs).rows → z k % p = 0) (h0 : ∀ j, j < n → lefF m (rowOf n xs) z j % p = 0) : ∀ k, k < m → z k % p = 0 := by
  have hp := (rightB_true ok.hp).1
  have h := takeL_ok (m := m) (n := n) hp hf ok.hx
  have hfree := h.free (hf.has hp) (fun l => z ((takeL p m n xs).rows.getD l 0)) fun j hj => by
    have h1 := h0 j hj
    have e : lefF m (rowOf n xs) z j % p = lefF m (rowOf n xs) (putV (takeL p m n xs).rows fun l => z ((takeL p m n xs).rows.getD l 0)) j % p := sm_mod fun k hk => by
      by_cases hc : k ∈ (takeL p m n xs).rows
      · obtain ⟨l, hl, e⟩ := List.getElem_of_mem hc
        have e' : (takeL p m n xs).rows.getD l 0 = k := by rw [List.getD, List.getElem?_eq_getElem hl]; exact e
        have e2 := putV_at (c := fun l => z ((takeL p m n xs).rows.getD l 0)) hl fun i k hi hk => h.rows_one hi hk
        simp only [e'] at e2
        rw [e2]
      · rw [putV_off hc, Int.zero_mul, mz_mul' (hz k hk hc)]
        simp
    rw [e, lef_put (fun k hk => h.rows_lt hk), h.lr] at h1
    exact h1
  intro k hk
  by_cases hc : k ∈ (takeL p m n xs).rows
  · obtain ⟨l, hl, e⟩ := List.getElem_of_mem hc
    have e' : (takeL p m n xs).rows.getD l 0 = k := by rw [List.getD, List.getElem?_eq_getElem hl]; exact e
    have := hfree l (by rw [← h.lr]; exact hl)
    rwa [e'] at this
  · exact hz k hk hc
theorem IsY.one {i : Nat} {x y : List Int} (ok : MatOk p m n xs) (hf : Fld p) (hx : IsY p m n xs i x) (hy : IsY p m n xs i y) : x = y := by
  have hp := (rightB_true ok.hp).1
  refine vec_ext hp hx.len hy.len hx.rng hy.rng fun k hk => mz_sub.2 (lef_own ok hf (z := fun k => atV x k - atV y k) (fun k hk hc => ?_) (fun j hj => ?_) k hk)
  · unfold atV
    by_cases e : k = i
    · rw [e, hx.own, hy.own]; simp
    · rw [hx.off k hk hc e, hy.off k hk hc e]; simp
  · have e1 := left_get (p := p) (m := m) (xs := xs) (y := x) hj
    have e2 := left_get (p := p) (m := m) (xs := xs) (y := y) hj
    rw [hx.sol, replicate_get] at e1
    rw [hy.sol, replicate_get] at e2
    have e : lefF m (rowOf n xs) (fun k => atV x k - atV y k) j = lefF m (rowOf n xs) (atV x) j + -lefF m (rowOf n xs) (atV y) j := by
      unfold lefF
      rw [← sm_neg, ← sm_add]
      exact sm_congr fun k _ => by grind
    rw [e]
    exact mz_add e1.symm (mz_neg e2.symm)
end Go.Proofs.Ytmcadgcfdlonoaa
/- How many vectors a matrix takes to 0: p so many times multiplied by itself as its columns less its rank (in plain Lean; nothing of a program). -/
namespace Go.Proofs.Ytmcadgcfdlonoaa

theorem mov_get {p n : Nat} {x t : List Int} (hx : x.length = n) (ht : t.length = n) {j : Nat} (hj : j < n) : atV (movV p x t) j = (atV x j + atV t j) % (p : Int) := by
  unfold atV movV
  simp [List.getD, List.getElem?_zipWith, show j < x.length by omega, show j < t.length by omega]
theorem app_smul (n : Nat) (R : Nat → List Int) (c : Int) (x : Nat → Int) (i : Nat) : appF n R (fun j => c * x j) i = c * appF n R x i := by
  unfold appF
  rw [← sm_mul]
  exact sm_congr fun j _ => by rw [← Int.mul_assoc, ← Int.mul_assoc, Int.mul_comm ((R i).getD j 0)]
theorem app_null (n : Nat) (R : Nat → List Int) (i : Nat) : appF n R (fun _ => 0) i = 0 := sm_zero fun j _ => by simp
theorem app_mov {p n : Nat} {R : Nat → List Int} {x t : List Int} (hx : x.length = n) (ht : t.length = n) (i : Nat) : appF n R (atV (movV p x t)) i % (p : Int) = (appF n R (atV x) i + appF n R (atV t) i) % (p : Int) := by
  rw [← app_add]
  exact app_mod (fun j hj => by rw [mov_get hx ht hj, Int.emod_emod_of_dvd _ (Int.dvd_refl _)]) i
/-- are these rows' numbers 0? -/
def rowsZero (p n : Nat) (R : Nat → List Int) (rows : List Nat) (i : Nat) (x : List Int) : Bool := decide (∀ k, k < i → appF n R (atV x) (rows.getD k 0) % (p : Int) = 0)
theorem ker_step {p n m : Nat} {R : Nat → List Int} {st : ElE} (hp : HasInv (p : Int)) (h : ElOk p n R m st) {i : Nat} (hi : i < st.U.length) : cntV p n (rowsZero p n R st.rows i) = p * cntV p n (rowsZero p n R st.rows (i + 1)) := by
  have hp2 : 2 ≤ p := by have := hp.1; omega
  obtain ⟨x0, -, hx0⟩ := h.own_sol hp fun q => if q = st.rows.getD i 0 then 1 else 0
  have h1 : appF n R x0 (st.rows.getD i 0) % (p : Int) = 1 := by rw [hx0 i hi, if_pos rfl]; exact hp.one
  have h0 : ∀ k, k < i → appF n R x0 (st.rows.getD k 0) % (p : Int) = 0 := fun k hk => by
    have hne := h.inc k i hk (by rw [h.lr]; exact hi)
    rw [hx0 k (by omega), if_neg (by omega)]; rfl
  rw [cntV_split (rowsZero p n R st.rows i) (fun x => appF n R (atV x) (st.rows.getD i 0) % (p : Int)) fun x _ _ => ⟨Int.emod_nonneg _ (by omega), Int.emod_lt_of_pos _ (by omega)⟩]
  rw [← sumN_const]
  refine sumN_congr fun c hc => ?_
  obtain ⟨t, et⟩ : ∃ t, ofF (p : Int) n (fun j => (c : Int) * x0 j) = t := ⟨_, rfl⟩
  have lt : t.length = n := by rw [← et]; exact ofF_len _
  have ht : ∀ k, appF n R (atV t) k % (p : Int) = (c * appF n R x0 k) % (p : Int) := fun k => by
    rw [← app_smul]
    refine app_mod (fun j hj => ?_) k
    unfold atV
    rw [← et, ofF_get hj, Int.emod_emod_of_dvd _ (Int.dvd_refl _)]
  rw [← cntV_move (by omega) n (fun x => rowsZero p n R st.rows i x && (appF n R (atV x) (st.rows.getD i 0) % (p : Int) == (c : Int))) t lt]
  refine cntV_congr fun x hl _ => ?_
  have hm : ∀ k, appF n R (atV (movV p x t)) k % (p : Int) = (appF n R (atV x) k + c * appF n R x0 k) % (p : Int) := fun k => by
    rw [app_mov hl lt, Int.add_emod, ht k, ← Int.add_emod]
  have hz : ∀ k, k < i → appF n R (atV (movV p x t)) (st.rows.getD k 0) % (p : Int) = appF n R (atV x) (st.rows.getD k 0) % (p : Int) := fun k hk => by
    rw [hm, Int.add_emod, Int.mul_emod, h0 k hk]; simp
  have hi1 : appF n R (atV (movV p x t)) (st.rows.getD i 0) % (p : Int) = (appF n R (atV x) (st.rows.getD i 0) % (p : Int) + c) % (p : Int) := by
    rw [hm, Int.add_emod, Int.mul_emod, h1, Int.mul_one, Int.emod_emod_of_dvd _ (Int.dvd_refl _), ← Int.add_emod, Int.emod_add_emod]
  have hg0 := Int.emod_nonneg (appF n R (atV x) (st.rows.getD i 0)) (show (p : Int) ≠ 0 by omega)
  have hg1 := Int.emod_lt_of_pos (appF n R (atV x) (st.rows.getD i 0)) (show (0 : Int) < p by omega)
  unfold rowsZero
  rw [Bool.eq_iff_iff]
  simp only [Bool.and_eq_true, decide_eq_true_eq, beq_iff_eq]
  rw [hi1]
  generalize he : appF n R (atV x) (st.rows.getD i 0) % (p : Int) = e at *
  constructor
  · rintro ⟨a, b⟩ k hk
    rcases Nat.lt_or_ge k i with h | h
    · rw [← hz k h]; exact a k h
    · obtain rfl : k = i := by omega
      rw [he]
      rcases Int.lt_or_le (e + c) p with g | g
      · rw [Int.emod_eq_of_lt (by omega) g] at b; omega
      · have : (e + c) % (p : Int) = e + c - p := by
          rw [← Int.sub_emod_right, Int.emod_eq_of_lt (by omega) (by omega)]
        omega
  · intro a
    refine ⟨fun k hk => by rw [hz k hk]; exact a k (by omega), ?_⟩
    have := a i (by omega)
    rw [he] at this
    rw [this, Int.zero_add]
    exact Int.emod_eq_of_lt (by omega) (by omega)
theorem ker_all {p n m : Nat} {R : Nat → List Int} {st : ElE} (hp : HasInv (p : Int)) (h : ElOk p n R m st) : ∀ i, i ≤ st.U.length → p ^ i * cntV p n (rowsZero p n R st.rows i) = p ^ n
  | 0, _ => by
    rw [Nat.pow_zero, Nat.one_mul, ← cntV_all p n]
    exact cntV_congr fun x _ _ => by simp [rowsZero]
  | i + 1, hi => by
    have h1 := ker_all hp h i (by omega)
    rw [ker_step hp h (show i < st.U.length by omega)] at h1
    rw [← h1, Nat.pow_succ, Nat.mul_assoc]
/-- does the matrix take it to 0? -/
def kerB (p n m : Nat) (R : Nat → List Int) (x : List Int) : Bool := decide (∀ i, i < m → appF n R (atV x) i % (p : Int) = 0)
theorem ElOk.rank_le {p : Int} {n m : Nat} {R : Nat → List Int} {st : ElE} (h : ElOk p n R m st) : st.U.length ≤ n := by
  have := offE_len h.cols_nodup fun c hc => h.cols_lt hc
  have := h.lk
  omega
theorem ker_count {p n m : Nat} {R : Nat → List Int} {st : ElE} (hp : HasInv (p : Int)) (h : ElOk p n R m st) : cntV p n (kerB p n m R) = p ^ (n - st.U.length) := by
  have hp2 : 2 ≤ p := by have := hp.1; omega
  have hr := h.rank_le
  have e : cntV p n (kerB p n m R) = cntV p n (rowsZero p n R st.rows st.U.length) := cntV_congr fun x _ _ => by
    unfold kerB rowsZero
    rw [Bool.eq_iff_iff]
    simp only [decide_eq_true_eq]
    constructor
    · exact fun a k hk => a _ (h.low k (by rw [h.lr]; exact hk))
    · intro a i hi
      have := h.all_rows hp (x := atV x) (x0 := fun _ => 0) (fun k hk => by rw [a k hk, app_null]; rfl) hi
      rw [this, app_null]; rfl
  have := ker_all hp h st.U.length (Nat.le_refl _)
  rw [← e, show n = st.U.length + (n - st.U.length) by omega, Nat.pow_add, show st.U.length + (n - st.U.length) = n by omega] at this
  exact Nat.eq_of_mul_eq_mul_left (Nat.pow_pos (by omega)) this
/-- where the matrix isn't 0, at most one part in p -/
theorem ker_part {p n m : Nat} {R : Nat → List Int} {st : ElE} (hp : HasInv (p : Int)) (h : ElOk p n R m st) (hne : ∃ i j, i < m ∧ j < n ∧ (R i).getD j 0 % (p : Int) ≠ 0) : cntV p n (kerB p n m R) ≤ p ^ n / p := by
  have hp2 : 2 ≤ p := by have := hp.1; omega
  obtain ⟨i, j, hi, hj, hz⟩ := hne
  have hr : 1 ≤ st.U.length := by
    rcases Nat.eq_zero_or_pos st.U.length with h0 | h0
    · exfalso
      apply hz
      rw [h.full hi hj, h0]
      rfl
    · exact h0
  have hn := h.rank_le
  rw [ker_count hp h, show p ^ n = p ^ (n - 1) * p by rw [← Nat.pow_succ]; congr 1; omega, Nat.mul_div_cancel _ (by omega)]
  exact Nat.pow_le_pow_right (by omega) (by omega)
/-- where it is, all of them -/
theorem ker_zero {p n m : Nat} {R : Nat → List Int} (hz : ∀ i j, i < m → j < n → (R i).getD j 0 % (p : Int) = 0) : cntV p n (kerB p n m R) = p ^ n := by
  rw [← cntV_all p n]
  refine cntV_congr fun x _ _ => ?_
  unfold kerB
  rw [decide_eq_true]
  intro i hi
  exact sm_mz fun j hj => mz_mul' (hz i j hi hj) _
end Go.Proofs.Ytmcadgcfdlonoaa
/- What is wrong of a claimed product, and how many vectors don't tell it (in plain Lean; nothing of a program). -/
namespace Go.Proofs.Ytmcadgcfdlonoaa
open Go.RowKit Go.Maps

/-- what is wrong -/
def wrongL (p : Int) (m k n : Nat) (xs ys zs : List Int) : List Int := tab (m * n) fun t => ((mulL p m k n xs ys).getD t 0 - zs.getD t 0) % p
/-- does a vector find nothing? -/
def looksB (p : Int) (m k n : Nat) (xs ys zs x : List Int) : Bool := decide (timesL p m k xs (timesL p k n ys x) = timesL p m n zs x)
def leftB (p : Int) (m k n : Nat) (xs ys zs y : List Int) : Bool := decide (leftL p k n ys (leftL p m k xs y) = leftL p m n zs y)
theorem wrongL_len (p : Int) (m k n : Nat) (xs ys zs : List Int) : (wrongL p m k n xs ys zs).length = m * n := tab_len _ _
theorem wrong_get {p : Int} {m k n i j : Nat} {xs ys zs : List Int} (hi : i < m) (hj : j < n) : (wrongL p m k n xs ys zs).getD (i * n + j) 0 = ((mulL p m k n xs ys).getD (i * n + j) 0 - zs.getD (i * n + j) 0) % p := tab_get _ (at_lt hi hj)
theorem wrongL_rng {p : Int} (hp : 2 ≤ p) (m k n : Nat) (xs ys zs : List Int) : Rng p (wrongL p m k n xs ys zs) := tab_rng fun _ _ => mod_range _ hp
theorem MatOk.wrong {p : Int} {m n k : Nat} {xs ys zs : List Int} (h : MatOk p m n zs) : MatOk p m n (wrongL p m k n xs ys zs) :=
  ⟨h.hp, wrongL_rng (rightB_true h.hp).1 m k n xs ys zs, h.hm, h.hn, wrongL_len p m k n xs ys zs⟩
/-- from the left it is the turned ones, looked at from the right -/
theorem left_looks (p : Int) (m k n : Nat) (xs ys zs y : List Int) : leftB p m k n xs ys zs y = looksB p n k m (turnL k n ys) (turnL m k xs) (turnL m n zs) y := by
  unfold leftB looksB
  rw [times_turn, times_turn, times_turn]
theorem sm_less (f g : Nat → Int) (n : Nat) : sm n f - sm n g = sm n fun i => f i - g i := by
  rw [Int.sub_eq_add_neg, ← sm_neg, ← sm_add]
  exact sm_congr fun i _ => (Int.sub_eq_add_neg).symm
/-- a vector finds nothing just if what is wrong makes 0 of it -/
theorem looks_ker {p m k n : Nat} {xs ys zs x : List Int} : looksB (p : Int) m k n xs ys zs x = kerB p n m (rowOf n (wrongL p m k n xs ys zs)) x := by
  have key : ∀ i, i < m → ((timesL (p : Int) m n (mulL (p : Int) m k n xs ys) x).getD i 0 = (timesL (p : Int) m n zs x).getD i 0 ↔ appF n (rowOf n (wrongL p m k n xs ys zs)) (atV x) i % (p : Int) = 0) := by
    intro i hi
    rw [times_get hi, times_get hi, mz_sub]
    have e : appF n (rowOf n (wrongL p m k n xs ys zs)) (atV x) i % (p : Int) = (appF n (rowOf n (mulL (p : Int) m k n xs ys)) (atV x) i - appF n (rowOf n zs) (atV x) i) % (p : Int) := by
      unfold appF
      rw [sm_less]
      refine sm_mod fun j hj => ?_
      have r : ∀ l : List Int, (rowOf n l i).getD j 0 = l.getD (i * n + j) 0 := fun l => tab_get _ hj
      rw [r, r, r, wrong_get hi hj, ← Int.sub_mul, Int.mul_emod, Int.emod_emod_of_dvd _ (Int.dvd_refl _), ← Int.mul_emod]
    rw [e]
  unfold looksB kerB
  rw [times_mul, decide_eq_decide]
  constructor
  · intro h i hi
    exact (key i hi).1 (by rw [h])
  · intro h
    refine list_ext (by rw [timesL_len, timesL_len]) fun i hi => ?_
    rw [timesL_len] at hi
    exact (key i hi).2 (h i hi)
/-- how many find nothing -/
theorem silent_count {p m k n : Nat} {xs ys zs : List Int} (hp : 2 ≤ (p : Int)) (hf : Fld (p : Int)) : cntV p n (looksB (p : Int) m k n xs ys zs) = p ^ (n - (takeL (p : Int) m n (wrongL p m k n xs ys zs)).U.length) := by
  rw [cntV_congr fun x _ _ => looks_ker]
  exact ker_count (hf.has hp) (takeL_ok hp hf (wrongL_rng hp m k n xs ys zs))
theorem silent_zero {p m k n : Nat} {xs ys zs : List Int} (hz : zeroB (wrongL p m k n xs ys zs) = true) : cntV p n (looksB (p : Int) m k n xs ys zs) = p ^ n := by
  rw [cntV_congr fun x _ _ => looks_ker]
  refine ker_zero fun i j hi hj => ?_
  rw [zeroB_iff, wrongL_len] at hz
  rw [show (rowOf n (wrongL p m k n xs ys zs) i).getD j 0 = _ from tab_get _ hj, hz _ (at_lt hi hj)]
  rfl
theorem silent_part {p m k n : Nat} {xs ys zs : List Int} (hp : 2 ≤ (p : Int)) (hf : Fld (p : Int)) (hz : zeroB (wrongL p m k n xs ys zs) = false) : cntV p n (looksB (p : Int) m k n xs ys zs) ≤ p ^ n / p := by
  rw [cntV_congr fun x _ _ => looks_ker]
  refine ker_part (hf.has hp) (takeL_ok hp hf (wrongL_rng hp m k n xs ys zs)) ?_
  apply Classical.byContradiction
  intro hn
  have : zeroB (wrongL p m k n xs ys zs) = true := by
    rw [zeroB_iff, wrongL_len]
    intro t ht
    apply Classical.byContradiction
    intro h0
    have hi := lt_div ht
    have hj := lt_mod ht
    refine hn ⟨t / n, t % n, hi, hj, ?_⟩
    rw [show (rowOf n (wrongL p m k n xs ys zs) (t / n)).getD (t % n) 0 = _ from tab_get _ hj, Nat.mul_comm, Nat.div_add_mod]
    have h1 := (wrongL_rng (p := (p : Int)) hp m k n xs ys zs).getD hp t
    rwa [Int.emod_eq_of_lt h1.1 h1.2]
  rw [this] at hz
  exact absurd hz (by simp)
/-- what is wrong of the turned ones is what is wrong, turned -/
theorem wrong_turn (p : Int) (m k n : Nat) (xs ys zs : List Int) : wrongL p n k m (turnL k n ys) (turnL m k xs) (turnL m n zs) = turnL m n (wrongL p m k n xs ys zs) :=
  grid_of (wrongL_len ..) fun j i hj hi => by rw [wrong_get hj hi, ← turn_mul, turnL, grid_get _ hj hi, turnL, grid_get _ hj hi, wrong_get hi hj]
theorem zeroB_turn {m n : Nat} {l : List Int} (hl : l.length = m * n) : zeroB (turnL m n l) = zeroB l := by
  rw [Bool.eq_iff_iff, zeroB_iff, zeroB_iff, turnL_len, hl]
  constructor
  · intro h t ht
    have hi := lt_div ht
    have hj := lt_mod ht
    have := h (t % n * m + t / n) (at_lt hj hi)
    rwa [turnL, grid_get _ hj hi, Nat.mul_comm, Nat.div_add_mod] at this
  · intro h t ht
    have hi := lt_div ht
    have hj := lt_mod ht
    have := h (t % m * n + t / m) (at_lt hj hi)
    have e : t / m * m + t % m = t := by rw [Nat.mul_comm, Nat.div_add_mod]
    rwa [← e, turnL, grid_get _ hi hj]
end Go.Proofs.Ytmcadgcfdlonoaa
/- Package fold: Wrong. -/
namespace Go.Proofs.Ytmcadgcfdlonoaa
open Go.RowKit Go.Maps

/-- four boxes -/
theorem boxes_4 (w : World) (t t' : TypeId) (a b c d : Array Value) : Blk ((((w.alloc (.cells a t)).alloc (.cells b t)).alloc (.cells c t)).alloc (.cells d t')) w.heap.size t a ∧ Blk ((((w.alloc (.cells a t)).alloc (.cells b t)).alloc (.cells c t)).alloc (.cells d t')) (w.heap.size + 1) t b ∧ Blk ((((w.alloc (.cells a t)).alloc (.cells b t)).alloc (.cells c t)).alloc (.cells d t')) (w.heap.size + 1 + 1) t c ∧ Blk ((((w.alloc (.cells a t)).alloc (.cells b t)).alloc (.cells c t)).alloc (.cells d t')) (w.heap.size + 1 + 1 + 1) t' d ∧ Ext w ((((w.alloc (.cells a t)).alloc (.cells b t)).alloc (.cells c t)).alloc (.cells d t')) := by
  obtain ⟨h1, h2, h3, h4⟩ := boxes_3 w t a b c
  refine ⟨h1.ext ((Ext.refl _).alloc _), h2.ext ((Ext.refl _).alloc _), h3.ext ((Ext.refl _).alloc _), ?_, h4.alloc _⟩
  have := Blk.new (((w.alloc (.cells a t)).alloc (.cells b t)).alloc (.cells c t)) t' d
  rwa [alloc_size, alloc_size, alloc_size] at this
theorem meet_yes {p : Int} {m k n : Nat} {xs ys zs : List Int} (ok : MatOk p m k xs) (oky : MatOk p k n ys) (okz : MatOk p m n zs) : meetB p m k k n m n xs ys zs = true := by
  unfold meetB
  rw [ok.b, oky.b, okz.b]
  simp

set_option maxRecDepth 100000 in
set_option maxHeartbeats 2000000 in
theorem foWrong_yes (p : Int) (m k n : Nat) (va vb vc : Value) (xs ys zs : List Int) (w : World) (ok : MatOk p m k xs) (oky : MatOk p k n ys) (okz : MatOk p m n zs) (ha : Ints .u64 w va xs) (hb : Ints .u64 w vb ys) (hc : Ints .u64 w vc zs) :
    Calls Try.prog 12 #[.int .u64 p, matV m k va, matV k n vb, matV m n vc] w (RetN m n (wrongL p m k n xs ys zs) w) := by
  have hp2 := rightB_true ok.hp
  have C1 := hid fun (W : World) (hW : Ext w W) => meet_yes ok oky okz ▸ foClaims p m k k n m n va vb vc xs ys zs W (by omega) (by omega) (ha.ext hW) (hb.ext hW) (hc.ext hW) ok.u64 oky.u64 okz.u64
  have C2 := hid fun (W : World) (hW : Ext w W) => mxMulW p m k n va vb xs ys W ok oky (ha.ext hW) (hb.ext hW)
  obtain ⟨F, hF⟩ : ∃ F, mulL p m k n xs ys = F := ⟨_, rfl⟩
  have hFl : F.length = m * n := by rw [← hF]; exact tab_len _ _
  have hFr : Rng p F := by rw [← hF]; exact mulL_rng hp2.1 _ _ _ _ _
  unfold wrongL
  rw [hF] at C2 ⊢
  have Okz := hid okz
  have hm := ok.hm; have hk := ok.hn; have hn := oky.hn
  obtain ⟨Q, hQ⟩ : ∃ Q, m * n = Q := ⟨_, rfl⟩
  have hQb : Q ≤ 4096 := by rw [← hQ]; exact Nat.mul_le_mul hm.2 hn.2
  have hzl : zs.length = Q := by rw [← hQ]; exact okz.hl
  rw [hQ] at hFl ⊢
  have HFl := hid hFl; have HFr := hid hFr; have Hp := hid ok.hp
  obtain ⟨a1, k1, rfl, -, -, -⟩ := ha
  obtain ⟨a2, k2, rfl, -, -, -⟩ := hb
  obtain ⟨ac, kc, rfl, c1, c2, c3⟩ := hc
  obtain ⟨bz, oz, rfl, hbz, c4⟩ := c3 okz.pos
  have K := hid c4
  rw [hzl] at c1
  have hB := hid (boxes_4 w 25 25 #[.int .i64 (m : Int), .int .i64 (k : Int), .slice a1 xs.length k1] #[.int .i64 (k : Int), .int .i64 (n : Int), .slice a2 ys.length k2] #[.int .i64 (m : Int), .int .i64 (n : Int), .slice (some ⟨bz, oz, none⟩) zs.length kc] #[.int .i64 0, .int .i64 0, .slice none 0 0])
  unfold RetMW matV at C2
  rw [hFl] at C2
  unfold matV at C1
  unfold matV
  rw [hzl] at C1 hB K ⊢
  have Hzl := hid hzl
  have pos : 0 < Q := by rw [← hQ]; exact Nat.mul_pos hm.1 hn.1
  clear c3 c4 hF hFl hFr hQ hzl ok oky okz
  go_enter Try.func12, Try.ntmps12
  go_wp2_with (first
    | (go_at_call 22; refine (C1.out _ hB.out.2.2.2.2).mono ?_; rintro _ w1 ⟨rfl, x1⟩
       have HA := hid (hB.out.1.ext x1); have HB := hid (hB.out.2.1.ext x1); have HC := hid (hB.out.2.2.1.ext x1); have HR := hid (hB.out.2.2.2.1.ext x1); have HE := hid (hB.out.2.2.2.2.trans x1)
       obtain ⟨p0, p1, p2⟩ := HA.out.at3; obtain ⟨u0, u1, u2⟩ := HB.out.at3)
    | (go_at_call 27; refine (C2.out _ HE.out).mono ?_; rintro _ w2 ⟨g, rfl, hg, hrow, x2⟩
       have HU := hid (Und.start (Q := Q) (r := (m : Int)) (c := (n : Int)) hg hrow HFl.out x2)
       have b3 := (HC.out.ext (x2.alloc (.cells #[.int .i64 (m : Int), .int .i64 (n : Int), .slice (some ⟨g, 0, none⟩) Q Q] 25))).at3
       obtain ⟨s0, s1, s2⟩ := b3; clear p0 p1 p2 u0 u1 u2))
  obtain ⟨h, hh⟩ : ∃ h, w2.heap.size = h := ⟨_, rfl⟩
  obtain ⟨w3, hw3⟩ : ∃ w3, w2.alloc (.cells #[.int .i64 (m : Int), .int .i64 (n : Int), .slice (some ⟨g, 0, none⟩) Q Q] 25) = w3 := ⟨_, rfl⟩
  rw [hw3, hh] at HU
  rw [hw3] at s0 s1 s2
  rw [hw3, hh]
  have hR1 := HR.out.lt
  clear hh hw3 hrow x2 hg
  obtain ⟨gR, hgR⟩ : ∃ gR, w.heap.size + 1 + 1 + 1 = gR := ⟨_, rfl⟩
  have hgw : w.heap.size ≤ gR := by omega
  rw [hgR] at HR hR1
  rw [hgR]
  clear hgR
  go_loopw [31] (fun iv wr => ∃ (i : Nat) (l : List Int), iv = .int .i64 i ∧ i ≤ Q ∧ Hid (Und w1 wr h g Q m n l) ∧ Hid (∀ t, t < Q → l.getD t 0 = if t < i then (F.getD t 0 - zs.getD t 0) % p else F.getD t 0)) (fun iv _ => Q - (intOf iv).toNat)
  case atStart => exact ⟨0, _, rfl, Nat.zero_le _, HU, hid fun t ht => by rw [if_neg (by omega)]⟩
  case round =>
    clear HU
    obtain ⟨i, l, rfl, hi, HU, hl⟩ := hrel
    rename World => wr
    by_cases hlt : i < Q
    · have gz := ((HE.out.trans HU.out.ext).cells _ _ hbz).trans (K.out i hlt)
      obtain ⟨z, ez⟩ : ∃ z, zs.getD i 0 = z := ⟨_, rfl⟩
      rw [ez] at gz
      obtain ⟨f, ef⟩ : ∃ f, F.getD i 0 = f := ⟨_, rfl⟩
      have el : l.getD i 0 = f := by rw [hl.out i hlt, if_neg (by omega), ef]
      have hzr : 0 ≤ z ∧ z < p := by rw [← ez]; exact Okz.out.hx.getD hp2.1 i
      have hfr : 0 ≤ f ∧ f < p := by rw [← ef]; exact HFr.out.getD hp2.1 i
      have CS := hid fun (W : World) => sub_yes p f z W Hp.out hfr.1 hfr.2 hzr.1 hzr.2
      obtain ⟨d, ed⟩ : ∃ d, (f - z) % p = d := ⟨_, rfl⟩
      rw [ed] at CS
      have hnx := hid (show ∀ t, t < Q → (l.set i d).getD t 0 = if t < i + 1 then (F.getD t 0 - zs.getD t 0) % p else F.getD t 0 from fun t ht => by
        rw [set_get l _ _ d (by rw [HU.out.len]; exact hlt)]
        by_cases e : i = t
        · subst e; rw [if_pos rfl, if_pos (by omega), ef, ez, ed]
        · rw [if_neg e, hl.out t ht]
          by_cases e2 : t < i
          · rw [if_pos e2, if_pos (by omega)]
          · rw [if_neg e2, if_neg (by omega)])
      obtain ⟨o0, o1, o2⟩ := HU.out.box.at3
      obtain ⟨gt, ft⟩ := HU.out.at_ hlt
      rw [el] at gt
      have i1 : (i : Int) < (Q : Int) := by omega
      have i0 : (0 : Int) ≤ (i : Int) := by omega
      clear ez ef el ed hzr hfr
      go_wp2_with fail
      go_region_law (go_simp; go_at_call 28; refine (CS.out _).mono ?_; rintro _ w5 ⟨rfl, x5⟩
                     have y5 : Ext wr w5 := ((Ext.refl wr).drew).trans x5
                     have HU5 := hid (HU.out.ext' y5); obtain ⟨gt5, ft5⟩ := HU5.out.at_ hlt; obtain ⟨r0, r1, r2⟩ := HU5.out.box.at3)
      all_goals
        have HP := hid (HU5.out.put hlt d)
        go_wp2_with fail
        go_roundw
        case rel => exact ⟨i + 1, l.set i d, by go_num, by omega, HP, hnx⟩
        case measure => simp [intOf]; omega
    · obtain rfl : Q = i := by omega
      have hRr := HR.out.ext HU.out.ext
      obtain ⟨o0, o1, o2⟩ := HU.out.box.at3
      obtain ⟨r0, r1, r2⟩ := hRr.at3
      have f0 := hRr.frozen 0
      have f1 := hRr.frozen 1
      have f2 := hRr.frozen 2
      have FF := hid (HU.out.fin hRr hR1 (HE.out.trans HU.out.ext) hgw (by omega))
      clear hRr
      go_wp2_with fail
      refine bodyPost_ret (results_cell_row_tmp rfl _ _ gR 25 _ (0, 0) _ rfl FF.out.1 Try.underlying25 rfl (by kernel_rfl)) rfl ?_
      have e : l = tab Q _ := tab_of HU.out.len fun t ht => by rw [hl.out t ht, if_pos ht]
      rw [← e]
      exact ⟨_, rfl, FF.out.2.1, FF.out.2.2⟩
end Go.Proofs.Ytmcadgcfdlonoaa
/- Package fold: Looks, Left, Tells. -/
namespace Go.Proofs.Ytmcadgcfdlonoaa
open Go.RowKit Go.Maps

set_option maxRecDepth 100000 in
set_option maxHeartbeats 1000000 in
theorem foLooks_yes (p : Int) (m k n : Nat) (va vb vc vx : Value) (xs ys zs x : List Int) (w : World) (ok : MatOk p m k xs) (oky : MatOk p k n ys) (okz : MatOk p m n zs) (ha : Ints .u64 w va xs) (hb : Ints .u64 w vb ys) (hc : Ints .u64 w vc zs)
    (hv : Ints .u64 w vx x) (hx : Rng p x) (hxl : x.length = n) :
    Calls Try.prog 9 #[.int .u64 p, matV m k va, matV k n vb, matV m n vc, vx] w (Ret (.tuple #[.bool (looksB p m k n xs ys zs x), .int .i64 0]) w) := by
  have hp2 := rightB_true ok.hp
  have C1 := hid fun (W : World) (hW : Ext w W) => meet_yes ok oky okz ▸ foClaims p m k k n m n va vb vc xs ys zs W (by omega) (by omega) (ha.ext hW) (hb.ext hW) (hc.ext hW) ok.u64 oky.u64 okz.u64
  have T1 := hid fun (W : World) (hW : Ext w W) => mxTimes_yes p m n vc vx zs x W okz (hc.ext hW) (hv.ext hW) hx hxl
  have T2 := hid fun (W : World) (hW : Ext w W) => mxTimes_yes p k n vb vx ys x W oky (hb.ext hW) (hv.ext hW) hx hxl
  have T3 := hid fun (W : World) (hW : Ext w W) (z : Value) (hz : Ints .u64 W z (timesL p k n ys x)) => mxTimes_yes p m k va z xs _ W ok (ha.ext hW) hz (timesL_rng hp2.1 _ _ _ _) (timesL_len _ _ _ _)
  unfold looksB
  obtain ⟨l2, e2⟩ : ∃ l, timesL p k n ys x = l := ⟨_, rfl⟩
  rw [e2] at T2 T3 ⊢
  obtain ⟨l3, e3⟩ : ∃ l, timesL p m k xs l2 = l := ⟨_, rfl⟩
  rw [e3] at T3 ⊢
  obtain ⟨l1, e1⟩ : ∃ l, timesL p m n zs x = l := ⟨_, rfl⟩
  rw [e1] at T1 ⊢
  have CE := hid fun (W : World) (z z' : Value) (hz : Ints .u64 W z l3) (hz' : Ints .u64 W z' l1) => equal_any z z' l3 l1 W hz hz'
  obtain ⟨D, eD⟩ : ∃ D, decide (l3 = l1) = D := ⟨_, rfl⟩
  rw [eD] at CE ⊢
  clear e1 e2 e3 eD hx hxl ok oky okz
  obtain ⟨a1, k1, rfl, -, -, -⟩ := ha
  obtain ⟨a2, k2, rfl, -, -, -⟩ := hb
  obtain ⟨a3, k3, rfl, -, -, -⟩ := hc
  obtain ⟨a4, k4, rfl, -, -, -⟩ := hv
  have hB := hid (boxes_3 w 25 #[.int .i64 (m : Int), .int .i64 (k : Int), .slice a1 xs.length k1] #[.int .i64 (k : Int), .int .i64 (n : Int), .slice a2 ys.length k2] #[.int .i64 (m : Int), .int .i64 (n : Int), .slice a3 zs.length k3])
  unfold RetV at T1 T2 T3
  unfold matV at *
  go_enter Try.func9, Try.ntmps9
  go_wp2_with (first
    | (go_at_call 22; refine (C1.out _ hB.out.2.2.2).mono ?_; rintro _ w1 ⟨rfl, x1⟩
       have HA := hid (hB.out.1.ext x1); have HB := hid (hB.out.2.1.ext x1); have HC := hid (hB.out.2.2.1.ext x1); have HE := hid (hB.out.2.2.2.trans x1)
       obtain ⟨p0, p1, p2⟩ := HC.out.at3)
    | (go_at_call 24; refine (CE.out _ _ _ HI3.out (HI1.out.ext (x3.trans x4))).mono ?_; rintro _ w5 ⟨rfl, x5⟩)
    | (have t := HI2; clear t; go_at_call 23; refine (T3.out _ (HE.out.trans (x2.trans x3)) _ HI2.out).mono ?_; rintro _ w4 ⟨z3, rfl, hI, x4⟩; have HI3 := hid hI; obtain ⟨b3, c3, rfl, -, -, -⟩ := hI)
    | (have t := HI1; clear t; go_at_call 23; refine (T2.out _ (HE.out.trans x2)).mono ?_; rintro _ w3 ⟨z2, rfl, hI, x3⟩; have HI2 := hid hI; obtain ⟨b2, c2, rfl, -, -, -⟩ := hI
       obtain ⟨r0, r1, r2⟩ := (HA.out.ext (x2.trans x3)).at3)
    | (go_at_call 23; refine (T1.out _ HE.out).mono ?_; rintro _ w2 ⟨z1, rfl, hI, x2⟩; have HI1 := hid hI; obtain ⟨b1, c1, rfl, -, -, -⟩ := hI
       obtain ⟨q0, q1, q2⟩ := (HB.out.ext x2).at3))
  go_ret2
  exact ⟨rfl, HE.out.trans (x2.trans (x3.trans (x4.trans x5)))⟩
set_option maxRecDepth 100000 in
set_option maxHeartbeats 1000000 in
theorem foLeft_yes (p : Int) (m k n : Nat) (va vb vc vx : Value) (xs ys zs x : List Int) (w : World) (ok : MatOk p m k xs) (oky : MatOk p k n ys) (okz : MatOk p m n zs) (ha : Ints .u64 w va xs) (hb : Ints .u64 w vb ys) (hc : Ints .u64 w vc zs)
    (hv : Ints .u64 w vx x) (hx : Rng p x) (hxl : x.length = m) :
    Calls Try.prog 15 #[.int .u64 p, vx, matV m k va, matV k n vb, matV m n vc] w (Ret (.tuple #[.bool (leftB p m k n xs ys zs x), .int .i64 0]) w) := by
  have hp2 := rightB_true ok.hp
  have C1 := hid fun (W : World) (hW : Ext w W) => meet_yes ok oky okz ▸ foClaims p m k k n m n va vb vc xs ys zs W (by omega) (by omega) (ha.ext hW) (hb.ext hW) (hc.ext hW) ok.u64 oky.u64 okz.u64
  have T1 := hid fun (W : World) (hW : Ext w W) => mxLeft_yes p m n vc vx zs x W okz (hc.ext hW) (hv.ext hW) hx hxl
  have T2 := hid fun (W : World) (hW : Ext w W) => mxLeft_yes p m k va vx xs x W ok (ha.ext hW) (hv.ext hW) hx hxl
  have T3 := hid fun (W : World) (hW : Ext w W) (z : Value) (hz : Ints .u64 W z (leftL p m k xs x)) => mxLeft_yes p k n vb z ys _ W oky (hb.ext hW) hz (leftL_rng hp2.1 _ _ _ _) (leftL_len _ _ _ _)
  unfold leftB
  obtain ⟨l2, e2⟩ : ∃ l, leftL p m k xs x = l := ⟨_, rfl⟩
  rw [e2] at T2 T3 ⊢
  obtain ⟨l3, e3⟩ : ∃ l, leftL p k n ys l2 = l := ⟨_, rfl⟩
  rw [e3] at T3 ⊢
  obtain ⟨l1, e1⟩ : ∃ l, leftL p m n zs x = l := ⟨_, rfl⟩
  rw [e1] at T1 ⊢
  have CE := hid fun (W : World) (z z' : Value) (hz : Ints .u64 W z l3) (hz' : Ints .u64 W z' l1) => equal_any z z' l3 l1 W hz hz'
  obtain ⟨D, eD⟩ : ∃ D, decide (l3 = l1) = D := ⟨_, rfl⟩
  rw [eD] at CE ⊢
  clear e1 e2 e3 eD hx hxl ok oky okz
  obtain ⟨a1, k1, rfl, -, -, -⟩ := ha
  obtain ⟨a2, k2, rfl, -, -, -⟩ := hb
  obtain ⟨a3, k3, rfl, -, -, -⟩ := hc
  obtain ⟨a4, k4, rfl, -, -, -⟩ := hv
  have hB := hid (boxes_3 w 25 #[.int .i64 (m : Int), .int .i64 (k : Int), .slice a1 xs.length k1] #[.int .i64 (k : Int), .int .i64 (n : Int), .slice a2 ys.length k2] #[.int .i64 (m : Int), .int .i64 (n : Int), .slice a3 zs.length k3])
  unfold RetV at T1 T2 T3
  unfold matV at *
  go_enter Try.func15, Try.ntmps15
  go_wp2_with (first
    | (go_at_call 22; refine (C1.out _ hB.out.2.2.2).mono ?_; rintro _ w1 ⟨rfl, x1⟩
       have HA := hid (hB.out.1.ext x1); have HB := hid (hB.out.2.1.ext x1); have HC := hid (hB.out.2.2.1.ext x1); have HE := hid (hB.out.2.2.2.trans x1)
       obtain ⟨p0, p1, p2⟩ := HC.out.at3)
    | (go_at_call 24; refine (CE.out _ _ _ HI3.out (HI1.out.ext (x3.trans x4))).mono ?_; rintro _ w5 ⟨rfl, x5⟩)
    | (have t := HI2; clear t; go_at_call 32; refine (T3.out _ (HE.out.trans (x2.trans x3)) _ HI2.out).mono ?_; rintro _ w4 ⟨z3, rfl, hI, x4⟩; have HI3 := hid hI; obtain ⟨b3, c3, rfl, -, -, -⟩ := hI)
    | (have t := HI1; clear t; go_at_call 32; refine (T2.out _ (HE.out.trans x2)).mono ?_; rintro _ w3 ⟨z2, rfl, hI, x3⟩; have HI2 := hid hI; obtain ⟨b2, c2, rfl, -, -, -⟩ := hI
       obtain ⟨r0, r1, r2⟩ := (HB.out.ext (x2.trans x3)).at3)
    | (go_at_call 32; refine (T1.out _ HE.out).mono ?_; rintro _ w2 ⟨z1, rfl, hI, x2⟩; have HI1 := hid hI; obtain ⟨b1, c1, rfl, -, -, -⟩ := hI
       obtain ⟨q0, q1, q2⟩ := (HA.out.ext x2).at3))
  go_ret2
  exact ⟨rfl, HE.out.trans (x2.trans (x3.trans (x4.trans x5)))⟩

set_option maxHeartbeats 1000000 in
theorem foTells_yes (p : Int) (m k n : Nat) (va vb vc vx : Value) (xs ys zs x : List Int) (w : World) (ok : MatOk p m k xs) (oky : MatOk p k n ys) (okz : MatOk p m n zs) (ha : Ints .u64 w va xs) (hb : Ints .u64 w vb ys) (hc : Ints .u64 w vc zs)
    (hv : Ints .u64 w vx x) (hx : Rng p x) (hxl : x.length = n) :
    Calls Try.prog 18 #[.int .u64 p, matV m k va, matV k n vb, matV m n vc, vx] w (Ret (.bool (!looksB p m k n xs ys zs x)) w) := by
  have C1 := hid fun (W : World) (hW : Ext w W) => foLooks_yes p m k n va vb vc vx xs ys zs x W ok oky okz (ha.ext hW) (hb.ext hW) (hc.ext hW) (hv.ext hW) hx hxl
  obtain ⟨D, eD⟩ : ∃ D, looksB p m k n xs ys zs x = D := ⟨_, rfl⟩
  rw [eD] at C1 ⊢
  clear eD hx hxl ok oky okz
  obtain ⟨a1, k1, rfl, -, -, -⟩ := ha
  obtain ⟨a2, k2, rfl, -, -, -⟩ := hb
  obtain ⟨a3, k3, rfl, -, -, -⟩ := hc
  obtain ⟨a4, k4, rfl, -, -, -⟩ := hv
  unfold matV at *
  go_enter Try.func18, Try.ntmps18
  go_wp2_with (go_at_call 9; refine (C1.out _ (by repeat (first | exact Ext.refl _ | assumption | refine Ext.drew ?_ | refine Ext.drewN ?_ _ | refine Ext.alloc ?_ _ | refine Ext.trans ?_ (by assumption)))).mono ?_; rintro _ w1 ⟨rfl, x1⟩)
  go_ret
  exact ⟨ret_bool (by simp), Ext.trans (by repeat (first | exact Ext.refl _ | assumption | refine Ext.drew ?_ | refine Ext.drewN ?_ _ | refine Ext.alloc ?_ _ | refine Ext.trans ?_ (by assumption))) x1⟩
end Go.Proofs.Ytmcadgcfdlonoaa
