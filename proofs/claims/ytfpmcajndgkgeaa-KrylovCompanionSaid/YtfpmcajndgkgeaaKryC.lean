/- A companion: its own polynomial, its determinant; matrices that are alike have one own polynomial; whose own polynomial has no first number has no inverse (in plain Lean; nothing of a program). -/
import Derived.Test.YtfpmcajndgkgeaaBun30
namespace Go.Proofs.Ytfpmcajndgkgeaa
variable {p : Int} {n : Nat} {xs : List Int}

/-! ### a companion's own polynomial -/
/-- ones beside the diagonal, c below -/
def cmpF (n : Nat) (c : Nat → Int) : Nat → RowF := fun r k => if r = n then c k else if k = r + 1 then 1 else 0
theorem cmp_shift {c : Nat → Int} {v : RowF} {r : Nat} (h : r < n) : mapF (n + 1) (cmpF n c) v r = v (r + 1) := by
  unfold mapF
  rw [sm_congr (g := fun k => if k = r + 1 then v k else 0) fun k _ => by
    unfold cmpF
    rw [if_neg (by omega)]
    split <;> simp]
  exact sm_single v (by omega)
theorem cmp_it {c : Nat → Int} {v : RowF} : ∀ {k r : Nat}, r + k < n + 1 → itF (n + 1) (cmpF n c) k v r = v (r + k)
  | 0, _, _ => rfl
  | k + 1, r, h => by
    show mapF (n + 1) (cmpF n c) (itF (n + 1) (cmpF n c) k v) r = _
    rw [cmp_shift (by omega), cmp_it (by omega)]
    congr 1; omega
theorem cmp_last {c : Nat → Int} {v : RowF} : itF (n + 1) (cmpF n c) (n + 1) v 0 = sm (n + 1) fun k => c k * v k := by
  rw [itF_succ, cmp_it (by omega)]
  unfold mapF
  exact sm_congr fun k _ => by
    unfold cmpF
    rw [if_pos (Nat.zero_add n)]
theorem cmp_zero {f c : Nat → Int} (hc : ∀ k, k < n + 1 → c k % p = -f k % p) (h1 : f (n + 1) = 1) (v : RowF) : doF (n + 1) (cmpF n c) (n + 2) f v 0 % p = 0 := by
  have e : doF (n + 1) (cmpF n c) (n + 2) f v 0 = (sm (n + 1) fun k => f k * v k) + sm (n + 1) fun k => c k * v k := by
    unfold doF
    rw [sm, h1, Int.one_mul, cmp_last]
    congr 1
    exact sm_congr fun k hk => by rw [cmp_it (by omega), Nat.zero_add]
  rw [e, ← sm_add]
  exact sm_mz fun k hk => by
    rw [← Int.add_mul]
    refine mz_mul' ?_ _
    rw [Int.add_emod, hc k hk, ← Int.add_emod, Int.add_right_neg, Int.zero_emod]
theorem cmp_kil {f c : Nat → Int} (hc : ∀ k, k < n + 1 → c k % p = -f k % p) (h1 : f (n + 1) = 1) (v : RowF) : ∀ i, i < n + 1 → doF (n + 1) (cmpF n c) (n + 2) f v i % p = 0 := fun i hi => by
  have e := cmp_it (n := n) (c := c) (v := doF (n + 1) (cmpF n c) (n + 2) f v) (k := i) (r := 0) (by omega)
  rw [Nat.zero_add] at e
  rw [← e, ← do_it]
  exact cmp_zero hc h1 _
theorem cmp_less {c : Nat → Int} {g : Ser p} (hg : g.low (n + 1)) (h : ∀ k, k < n + 1 → Kil p (n + 1) (cmpF n c) g (uniF k)) : g = 0 := by
  refine Ser.ext_ fun k => ?_
  rw [Ser.zero_co]
  rcases Nat.lt_or_ge k (n + 1) with q | q
  · have h1 := (h k q).at_ hg 0 (by omega)
    have e : doF (n + 1) (cmpF n c) (n + 1) g.co (uniF k) 0 = g.co k := by
      unfold doF
      rw [sm_congr (g := fun j => if j = k then g.co j else 0) fun j hj => by
        rw [cmp_it (by omega), Nat.zero_add]
        unfold uniF
        split <;> simp]
      exact sm_single g.co q
    rw [e, g.ok] at h1
    exact h1
  · exact hg k q
/-- a companion's own polynomial is the one that it is of -/
theorem cmp_min (hp : 2 ≤ p) {f : List Int} (hf : Pol p f) (hl : f.length = n + 2) (h1 : f.getD (n + 1) 0 = 1) {c : Nat → Int} (hc : ∀ k, k < n + 1 → c k % p = -f.getD k 0 % p) : IsMin p (n + 1) (cmpF n c) f := by
  have e : (pol p f).list (n + 1 + 1) = f := list_ext (by rw [Ser.list_len, hl]) fun k hk => by
    rw [Ser.list_len] at hk
    rw [Ser.list, tab_get _ hk]; exact hf.rng.co k
  have k1 : (pol p f).co (n + 1) = 1 := by rw [hf.rng.co]; exact h1
  have := IsOwn.of (A := cmpF n c) (n := n + 1) (V := fun v => ∃ i, i < n + 1 ∧ v = uniF i) hp (hl ▸ pol_low (p := p) f) k1 (fun v _ => ⟨n + 2, hl ▸ pol_low (p := p) f, fun i hi => ?_⟩) fun g hg hk => cmp_less hg fun k hk' => hk _ ⟨k, hk', rfl⟩
  · rw [e] at this; exact this
  · exact cmp_kil (fun k hk => by rw [hc k hk, hf.rng.co]) k1 v i hi

/-! ### its determinant -/
theorem cmp_det : ∀ (n : Nat) (c : Nat → Int), detF (n + 1) (cmpF n c) = sg n * c 0
  | 0, c => by
    rw [detF_succ]
    show 0 + sg 0 * cmpF 0 c 0 0 * 1 = _
    unfold cmpF
    rw [if_pos rfl]; omega
  | n + 1, c => by
    rw [detF_succ, sm_congr (g := fun k => if k = 1 then - (sg n * c 0) else 0) fun k hk => by
      unfold cmpF
      rw [if_neg (by omega)]
      by_cases e : k = 1
      · subst e
        rw [if_pos rfl, if_pos rfl, detF_congr (n + 1) (B := cmpF n fun j => c (skp 1 j)) fun i j hi hj => by
          show (if i + 1 = n + 1 then c (skp 1 j) else if skp 1 j = i + 1 + 1 then 1 else 0) = if i = n then c (skp 1 j) else if j = i + 1 then 1 else 0
          by_cases q : i = n
          · rw [if_pos (by omega), if_pos q]
          · rw [if_neg (by omega), if_neg q]
            unfold skp
            by_cases q' : j < 1
            · rw [if_pos q', if_neg (by omega), if_neg (by omega)]
            · rw [if_neg q']
              by_cases q2 : j = i + 1
              · rw [if_pos (by omega), if_pos q2]
              · rw [if_neg (by omega), if_neg q2], cmp_det n]
        show sg 1 * 1 * (sg n * c 0) = _
        rw [show sg 1 = -1 from rfl]; omega
      · rw [if_neg (by omega), if_neg e]; simp]
    rw [sm_single (fun _ => - (sg n * c 0)) (by omega), sg_succ, Int.neg_mul]

/-! ### alike -/
theorem it_alike {A B U N : Nat → RowF} (hN : ∀ v, Eqv p n (mapF n N v) (mapF n B (mapF n A (mapF n U v)))) (hU : ∀ v, Eqv p n (mapF n U (mapF n B v)) v) (v : RowF) : ∀ k, Eqv p n (itF n N k (mapF n B v)) (mapF n B (itF n A k v))
  | 0 => Eqv.refl _
  | k + 1 => fun i hi => by
    show mapF n N (itF n N k (mapF n B v)) i % p = mapF n B (mapF n A (itF n A k v)) i % p
    rw [map_mod (it_alike hN hU v k) i, hN _ i hi]
    exact map_mod (fun j _ => map_mod (hU _) j) i
theorem kil_alike {A B U N : Nat → RowF} (hN : ∀ v, Eqv p n (mapF n N v) (mapF n B (mapF n A (mapF n U v)))) (hU : ∀ v, Eqv p n (mapF n U (mapF n B v)) v) (hB : ∀ v, Eqv p n (mapF n B (mapF n U v)) v) {f : Ser p} (h : ∀ v, Kil p n A f v) (w : RowF) : Kil p n N f w := by
  obtain ⟨d, hd, hk⟩ := h (mapF n U w)
  have : Kil p n N f (mapF n B (mapF n U w)) := ⟨d, hd, fun i hi => by
    have e : doF n N d f.co (mapF n B (mapF n U w)) i % p = mapF n B (doF n A d f.co (mapF n U w)) i % p := by
      unfold doF
      rw [map_sum]
      exact sm_mod fun k _ => by rw [← mm_r, it_alike hN hU _ k i hi, mm_r]
    rw [e]
    exact sm_mz fun j hj => mz_mul (hk j hj) _⟩
  exact this.congr fun i hi => (hB w i hi).symm
theorem min_alike (hp : 2 ≤ p) {A B U N : Nat → RowF} (hN : ∀ v, Eqv p n (mapF n N v) (mapF n B (mapF n A (mapF n U v)))) (hU : ∀ v, Eqv p n (mapF n U (mapF n B v)) v) (hB : ∀ v, Eqv p n (mapF n B (mapF n U v)) v) {x y : List Int} (hx : IsMin p n A x) (hy : IsMin p n N y) : x = y := by
  have hA : ∀ v, Eqv p n (mapF n A v) (mapF n U (mapF n N (mapF n B v))) := fun v i hi => by
    have e1 : Eqv p n (mapF n N (mapF n B v)) (mapF n B (mapF n A v)) := fun j hj => by
      rw [hN _ j hj]
      exact map_mod (fun l _ => map_mod (hU v) l) j
    rw [map_mod e1 i, hU _ i hi]
  have hx' : IsMin p n N x := ⟨hx.isp, hx.ne, hx.mon, fun v _ => kil_alike hN hU hB (fun v => hx.all v) v, fun f hf hk => hx.dvd f hf fun v _ => kil_alike hA hB hU (fun w => Kil.all hf (fun i hi => hk _ ⟨i, hi, rfl⟩) w) v⟩
  exact IsOwn.one hp hx' hy
theorem times_Eqv {x : List Int} : Eqv p n (atV (timesL p n n xs x)) (mapF n (atF n xs) (atV x)) := fun i hi => by
  unfold atV
  rw [times_at hi, Int.emod_emod]; rfl
theorem map_tab (A : Nat → RowF) (v : RowF) (i : Nat) : mapF n A (atV (tab n v)) i = mapF n A v i := sm_congr fun k hk => by
  show _ * (tab n v).getD k 0 = _
  rw [tab_get _ hk]
theorem map_mul {xs ys : List Int} (v : RowF) : Eqv p n (mapF n (atF n (mulL p n n n xs ys)) v) (mapF n (atF n xs) (mapF n (atF n ys) v)) := fun i hi => by
  rw [← map_tab, ← times_at hi, ← times_mul, times_at hi, map_mod times_Eqv i]
  exact map_mod (fun j _ => by rw [map_tab]) i
theorem map_one (v : RowF) {i : Nat} (hi : i < n) : mapF n (atF n (oneL n)) v i = v i := by
  unfold mapF
  rw [sm_congr (g := fun k => if k = i then v k else 0) fun k hk => by
    show (oneL n).getD (i * n + k) 0 * v k = _
    rw [oneL, grid_get _ hi hk]
    by_cases e : k = i
    · rw [if_pos e, if_pos e.symm, Int.one_mul]
    · rw [if_neg e, if_neg (fun h => e h.symm), Int.zero_mul]]
  exact sm_single v hi
theorem map_inv {xs ys : List Int} (h : mulL p n n n xs ys = oneL n) (v : RowF) : Eqv p n (mapF n (atF n xs) (mapF n (atF n ys) v)) v := fun i hi => by
  rw [← map_mul v i hi, h, map_one v hi]
/-- b times a times b's inverse has a's own polynomial -/
theorem min_similar {a b u x y : List Int} (ok : MatOk p n n b) (hf : Fld p) (hr : (takeL p n n b).U.length = n) (hu : IsInv p n b u) (hx : MinL p n a x) (hy : MinL p n (mulL p n n n (mulL p n n n b a) u) y) : x = y :=
  min_alike (rightB_true ok.hp).1 (B := atF n b) (U := atF n u) (fun v i hi => by
    rw [map_mul v i hi, map_mul _ i hi]) (map_inv (hu.left ok hf hr)) (map_inv hu.one) hx hy

/-- only the places of the matrix count -/
theorem it_congr {A N : Nat → RowF} (e : ∀ i k, i < n → k < n → A i k = N i k) (v : RowF) : ∀ k i, i < n → itF n A k v i = itF n N k v i
  | 0, _, _ => rfl
  | k + 1, i, hi => by
    show (sm n fun j => A i j * itF n A k v j) = sm n fun j => N i j * itF n N k v j
    exact sm_congr fun j hj => by rw [e i j hi hj, it_congr e v k j hj]
theorem kil_congr {A N : Nat → RowF} (e : ∀ i k, i < n → k < n → A i k = N i k) {f : Ser p} {v : RowF} (h : Kil p n A f v) : Kil p n N f v := by
  obtain ⟨d, hd, hk⟩ := h
  refine ⟨d, hd, fun i hi => ?_⟩
  rw [← hk i hi]
  unfold doF
  exact congrArg (· % p) (sm_congr fun k _ => by rw [it_congr e v k i hi])
theorem min_congr {A N : Nat → RowF} (e : ∀ i k, i < n → k < n → A i k = N i k) {x : List Int} (h : IsMin p n A x) : IsMin p n N x :=
  ⟨h.isp, h.ne, h.mon, fun v hv => kil_congr e (h.kil v hv), fun f hf hk => h.dvd f hf fun v hv => kil_congr (fun i k hi hk => (e i k hi hk).symm) (hk v hv)⟩

/-! ### the first number -/
theorem min_det (ok : MatOk p n n xs) (hf : Fld p) {x : List Int} (hx : MinL p n xs x) : x.getD 0 0 = 0 ↔ detF n (atF n xs) % p = 0 := by
  have hp := (rightB_true ok.hp).1
  have hp' := hf.has hp
  have hl := List.length_pos_iff.2 hx.ne
  obtain ⟨d, hd⟩ : ∃ d, x.length = d + 1 := ⟨x.length - 1, by omega⟩
  have key : ∀ v, Eqv p n (fun i => x.getD 0 0 * v i + mapF n (atF n xs) (doF n (atF n xs) d (fun j => x.getD (0 + 1 + j) 0) v) i) (fun _ => 0) := fun v i hi => by
    have h1 := (hx.all v).at_ (hd ▸ pol_low (p := p) x) i hi
    have h2 := doF_pol (p := p) (n := n) x (atF n xs) v i hi
    rw [hd] at h2
    rw [h1] at h2
    have h3 := congrFun (doF_horner (n := n) (atF n xs) d (fun j => x.getD j 0) v 0) i
    simp only [Nat.zero_add] at h3
    show (_ + _) % p = 0 % p
    simp only [Nat.zero_add]
    rw [← h3, ← h2, Int.zero_emod]
  constructor
  · intro h0
    refine Classical.byContradiction fun hdet => ?_
    have hr : (takeL p n n xs).U.length = n := Classical.byContradiction fun hn => hdet ((det_rank (n := n) hp hf ok.hx).2 hn)
    obtain ⟨u, hu⟩ := IsInv.of ok hf hr
    have hleft := hu.left ok hf hr
    have hz : ∀ v, ∀ i, i < n → doF n (atF n xs) d (fun j => x.getD (0 + 1 + j) 0) v i % p = 0 := fun v i hi => by
      rw [← map_inv hleft _ i hi]
      exact sm_mz fun j hj => mz_mul (by
        have := key v j hj
        rw [h0] at this
        simpa using this) _
    let g : Ser p := .of p fun j => if j < d then x.getD (0 + 1 + j) 0 else 0
    have hg : g.low d := fun k hk => by
      show (if k < d then _ else (0 : Int)) % p = 0
      rw [if_neg (by omega), Int.zero_emod]
    have hgz : g = 0 := hx.less hp (f := g) (by rw [hd]; exact hg) fun v _ => ⟨d, hg, fun i hi => by
      rw [← hz v i hi]
      exact do_mod (Eqv.refl v) (fun k hk => by
        show (if k < d then _ else (0 : Int)) % p % p = _
        rw [if_pos hk, Int.emod_emod]) i hi⟩
    have h1 := hx.mon
    unfold lead at h1
    rw [hd, Nat.add_sub_cancel] at h1
    rcases Nat.eq_zero_or_pos d with q | q
    · rw [q] at h1; omega
    · have h2 : g.co (d - 1) = 0 := by rw [hgz]; rfl
      have h3 : g.co (d - 1) = 1 := by
        show (if d - 1 < d then x.getD (0 + 1 + (d - 1)) 0 else 0) % p = 1
        rw [if_pos (by omega), show 0 + 1 + (d - 1) = d by omega, h1]; exact mod_small (by omega) (by omega)
      omega
  · intro hdet
    refine Classical.byContradiction fun h0 => ?_
    have hr0 := hx.isp.rng.getD hp 0
    obtain ⟨b, hb⟩ := hp'.2 (x.getD 0 0) (by rw [mod_small hr0.1 hr0.2]; exact h0)
    let w : Nat → RowF := fun k => doF n (atF n xs) d (fun j => x.getD (0 + 1 + j) 0) (uniF k)
    let u : List Int := grid n n fun i k => -b * w k i % p
    have hone : mulL p n n n xs u = oneL n := by
      unfold mulL oneL
      refine grid_congr fun i k hi hk => ?_
      have e : dv p n (fun j => xs.getD (i * n + j) 0) (fun j => u.getD (j * n + k) 0) = (-b * mapF n (atF n xs) (w k) i) % p := by
        unfold dv mapF
        rw [← sm_mul]
        refine sm_mod fun j hj => ?_
        show xs.getD (i * n + j) 0 * u.getD (j * n + k) 0 % p = -b * (xs.getD (i * n + j) 0 * w k j) % p
        rw [grid_get _ hj hk, mm_r]
        exact congrArg (· % p) (by grind)
      have hk' := key (uniF k) i hi
      have hk2 : (x.getD 0 0 * uniF k i + mapF n (atF n xs) (w k) i) % p = 0 := by rw [← Int.zero_emod p]; exact hk'
      have e2 : (-b * mapF n (atF n xs) (w k) i) % p = uniF k i % p := by
        refine mz_sub.2 ?_
        rw [show -b * mapF n (atF n xs) (w k) i - uniF k i = -b * (x.getD 0 0 * uniF k i + mapF n (atF n xs) (w k) i) + (x.getD 0 0 * b - 1) * uniF k i by grind]
        exact mz_add (mz_mul hk2 _) (mz_mul' (mz_sub.1 (by rw [hb, hp'.one])) _)
      rw [e, e2]
      unfold uniF
      split
      · exact hp'.one
      · exact Int.zero_emod _
    have hd := det_product (n := n) (ys := u) hp hf ok.hx
    rw [hone, det_one, hp'.one, hdet, Int.zero_mul, Int.zero_emod] at hd
    omega
end Go.Proofs.Ytfpmcajndgkgeaa
