/- Right matrices over a field: rows in another order, rows again, products, rows that are scaled or alike, as the laws of layer 7 ask for them (in plain Lean; nothing of a program). -/
import Derived.Test.YtlcempbeecdimaaUsL
import Derived.Test.YtlcempbeecdimaaCupB1
import Derived.Test.YtlcempbeecdimaaRef06c
namespace Go.Proofs.Ytlcempbeecdimaa
variable {p : Int} {m n k q : Nat} {xs ys o : List Int}

theorem rowOf_congr {xs ys : List Int} {i i' : Nat} (h : ∀ j, j < n → ys.getD (i * n + j) 0 = xs.getD (i' * n + j) 0) : rowOf n ys i = rowOf n xs i' := tab_congr h
theorem rowsL_rng (hp : 2 ≤ p) (hx : Rng p xs) : Rng p (rowsL o n xs) := grid_rng fun _ _ _ _ => hx.getD hp _
theorem rowOf_rows {i : Nat} (ho : Ord m o) (hi : i < m) : rowOf n (rowsL o n xs) i = rowOf n xs (o.getD i 0).toNat :=
  rowOf_congr fun j hj => by rw [rowsL, grid_get _ (by rw [ho.len]; exact hi) hj]
theorem rank_rows (hp : 2 ≤ p) (hf : Fld p) (hx : Rng p xs) (ho : Ord m o) : (takeL p m n (rowsL o n xs)).U.length = (takeL p m n xs).U.length := by
  have h1 := takeL_ok (m := m) (n := n) hp hf hx
  have h2 := takeL_some (m := m) (n := n) hp hf (rowsL_rng (o := o) (n := n) hp hx)
  rw [takeE_congr (R' := fun i => rowOf n xs (o.getD i 0).toNat) m fun i hi => rowOf_rows ho hi] at h2
  exact rank_order (hf.has hp) ho h1 (takeE_ok hp m (fun i _ => rowOf_rng hp hx _) h2)
theorem rowsF_congr {R R' : Nat → List Int} (h : ∀ i, i < n → R i = R' i) : rowsF n R = rowsF n R' := by
  unfold rowsF
  exact List.map_congr_left fun i hi => by rw [h i (List.mem_range.1 hi)]
theorem det_rows (ho : Ord n o) : detF n (atF n (rowsL o n xs)) = sgnL o * detF n (atF n xs) := by
  rw [← rowsF_det, ← rowsF_det, ← det_order ho]
  exact congrArg _ (rowsF_congr fun i hi => rowOf_rows ho hi)
theorem prof_again (hp : 2 ≤ p) (hf : Fld p) (hx : Rng p xs) (hl : xs.length = m * n) : profZ p (2 * m) n (xs ++ xs) = profZ p m n xs := by
  have hle : ∀ i j, i < m → j < n → i * n + j < m * n := fun i j hi hj => at_lt hi hj
  have h0 : ∀ i, i < m → rowOf n (xs ++ xs) i = rowOf n xs i := fun i hi => rowOf_congr fun j hj => by
    have := hle i j hi hj
    simp only [List.getD]
    rw [List.getElem?_append_left (by omega)]
  have h1 : ∀ i, i < m → rowOf n (xs ++ xs) (m + i) = rowOf n xs i := fun i hi => rowOf_congr fun j hj => by
    have e : (m + i) * n + j = m * n + (i * n + j) := by rw [Nat.add_mul, Nat.add_assoc]
    simp only [List.getD]
    rw [e, List.getElem?_append_right (by omega), hl, Nat.add_sub_cancel_left]
  obtain ⟨s, hs, hr⟩ := takeE_again (hf.has hp) (fun i _ => rowOf_rng hp hx i) h0 h1 (takeL_some (m := m) (n := n) hp hf hx) m (Nat.le_refl _)
  have h2 := takeL_some (m := 2 * m) (n := n) hp hf (rng_app hx hx)
  rw [show 2 * m = m + m by omega, hs] at h2
  injection h2 with h2
  unfold profZ
  rw [show 2 * m = m + m by omega, ← h2, hr]

/-! ### products -/
theorem Bas.congr {r : Nat} {M M' u : Nat → RowF} (B : Bas p n m r M u) (h : ∀ i j, i < m → j < n → M' i j % p = M i j % p) : Bas p n m r M' u :=
  ⟨B.ind, fun i hi => (B.gen i hi).congr fun j hj => h i j hi hj, fun k hk => (B.own k hk).trans fun i hi => (Comb.one M' hi).congr fun j hj => (h i j hi hj).symm⟩
theorem lf_mul {i j : Nat} (hi : i < m) (hj : j < q) : lf (rowOf q (mulL p m k q xs ys) i) j % p = mulF k (fun i => lf (rowOf k xs i)) (fun l => lf (rowOf q ys l)) i j % p := by
  rw [lf_row hj]
  show (mulL p m k q xs ys).getD (i * q + j) 0 % p = _
  rw [mulL, grid_get _ hi hj]
  unfold dv mulF
  rw [Int.emod_emod]
  exact congrArg (· % p) (sm_congr fun l hl => by
    show atF k xs i l * atF q ys l j = lf (rowOf k xs i) l * lf (rowOf q ys l) j
    rw [lf_row hl, lf_row hj])
theorem rank_mul (hp : 2 ≤ p) (hf : Fld p) (hx : Rng p xs) (hy : Rng p ys) :
    (takeL p m q (mulL p m k q xs ys)).U.length ≤ (takeL p m k xs).U.length ∧ (takeL p m q (mulL p m k q xs ys)).U.length ≤ (takeL p k q ys).U.length ∧
    (takeL p m k xs).U.length + (takeL p k q ys).U.length ≤ (takeL p m q (mulL p m k q xs ys)).U.length + k := by
  have hi := hf.has hp
  have hA := takeL_ok (m := m) (n := k) hp hf hx
  have A := hA.bas hi
  have B := (takeL_ok (m := k) (n := q) hp hf hy).bas hi
  have D := ((takeL_ok (m := m) (n := q) hp hf (mulL_rng hp m k q xs ys)).bas hi).congr (M' := mulF k (fun i => lf (rowOf k xs i)) fun l => lf (rowOf q ys l)) fun i j h1 h2 => (lf_mul h1 h2).symm
  exact ⟨Bas.mul_left hi D A, Bas.mul_right hi D B, rank_sylvester hi hA D B⟩
theorem detF_mod : ∀ (n : Nat) {A B : Nat → Nat → Int}, (∀ i j, i < n → j < n → A i j % p = B i j % p) → detF n A % p = detF n B % p
  | 0, _, _, _ => rfl
  | n + 1, A, B, h => by
    rw [detF_succ, detF_succ]
    refine sm_mod fun k hk => ?_
    have h1 := h 0 k (by omega) hk
    have h2 := detF_mod n (A := fun i j => A (i + 1) (skp k j)) (B := fun i j => B (i + 1) (skp k j)) fun i j hi hj => h _ _ (by omega) (skp_lt hj)
    rw [← mm_r, h2, mm_r, Int.mul_assoc, Int.mul_assoc, ← mm_r (sg k), ← mm_l (A 0 k), h1, mm_l, mm_r]
theorem det_product (hp : 2 ≤ p) (hf : Fld p) (hx : Rng p xs) : detF n (atF n (mulL p n n n xs ys)) % p = (detF n (atF n xs) % p) * (detF n (atF n ys) % p) % p := by
  have hi := hf.has hp
  have h := takeL_ok (m := n) (n := n) hp hf hx
  have h1 := det_mul hi h (B := rowOf n ys)
  have h2 := h.det hi
  rw [rowsF_det] at h1 h2
  have e : (rowsF n (rowOf n xs)).map (mulR n fun l => lf (rowOf n ys l)) = (List.range n).map fun i => mulR n (fun l => lf (rowOf n ys l)) (lf (rowOf n xs i)) := by
    unfold rowsF
    rw [List.map_map]; rfl
  rw [e] at h1
  have e2 : detF n (atF n (mulL p n n n xs ys)) % p = detN n ((List.range n).map fun i => mulR n (fun l => lf (rowOf n ys l)) (lf (rowOf n xs i))) % p := detF_mod n fun i j h3 h4 => by
    have := lf_mul (p := p) (k := n) (xs := xs) (ys := ys) h3 h4
    rw [lf_row h4] at this
    exact this
  rw [mm_r, e2, h1, h2, mm_l]
theorem rowOf_set {i : Nat} {x : Int → Int} (zs : List Int) (h1 : ∀ a b, a < n → b < n → zs.getD (a * n + b) 0 = if a = i then x (xs.getD (i * n + b) 0) else xs.getD (a * n + b) 0) : (∀ a, a < n → a ≠ i → rowOf n zs a = rowOf n xs a) ∧ (i < n → ∀ b, b < n → (rowOf n zs i).getD b 0 = x ((rowOf n xs i).getD b 0)) :=
  ⟨fun a ha hne => rowOf_congr fun b hb => by rw [h1 a b ha hb, if_neg hne], fun hi b hb => by
    have e1 : (rowOf n zs i).getD b 0 = zs.getD (i * n + b) 0 := tab_get _ hb
    have e2 : (rowOf n xs i).getD b 0 = xs.getD (i * n + b) 0 := tab_get _ hb
    rw [e1, e2, h1 i b hi hb, if_pos rfl]⟩
theorem det_scaled {i : Nat} {c : Int} {zs : List Int} (hi : i < n) (h : ∀ a b, a < n → b < n → zs.getD (a * n + b) 0 = if a = i then xs.getD (i * n + b) 0 * c % p else xs.getD (a * n + b) 0) : detF n (atF n zs) % p = detF n (atF n xs) % p * c % p := by
  obtain ⟨h1, h2⟩ := rowOf_set (x := fun y => y * c % p) zs h
  rw [← rowsF_det, ← rowsF_det, det_scale hi h1 (x := c) fun b hb => by rw [h2 hi b hb, Int.emod_emod], mm_l]
theorem det_twice {i j : Nat} {zs : List Int} (hi : i < n) (hj : j < n) (hij : i ≠ j) (h : ∀ b, b < n → zs.getD (i * n + b) 0 = zs.getD (j * n + b) 0) : detF n (atF n zs) = 0 := by
  rw [← rowsF_det]
  exact det_alike hi hj hij (rowOf_congr h)
end Go.Proofs.Ytlcempbeecdimaa
