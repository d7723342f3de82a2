import Derived.Test.YthomeenmcajmdaaGreatDoorBun22
namespace Go.Proofs.YthomeenmcajmdaaGreatDoor
variable {p : Int} {n : Nat} {xs : List Int}
theorem times_Eqv {x : List Int} : Eqv p n (atV (timesL p n n xs x)) (mapF n (atF n xs) (atV x)) := fun i hi => by
  unfold atV
  rw [times_at hi, Int.emod_emod]; rfl
theorem map_tab (A : Nat → RowF) (v : RowF) (i : Nat) : mapF n A (atV (tab n v)) i = mapF n A v i := sm_congr fun k hk => by
  show _ * (tab n v).getD k 0 = _
  rw [tab_get _ hk]
theorem map_mul {xs ys : List Int} (v : RowF) : Eqv p n (mapF n (atF n (mulL p n n n xs ys)) v) (mapF n (atF n xs) (mapF n (atF n ys) v)) := fun i hi => by
  rw [← map_tab, ← times_at hi, ← times_mul, times_at hi, map_mod times_Eqv i]
  exact map_mod (fun j _ => by rw [map_tab]) i
theorem map_one (v : RowF) {i : Nat} (hi : i < n) : mapF n (atF n (oneL n)) v i = v i := by
  unfold mapF
  rw [sm_congr (g := fun k => if k = i then v k else 0) fun k hk => by
    show (oneL n).getD (i * n + k) 0 * v k = _
    rw [oneL, grid_get _ hi hk]
    by_cases e : k = i
    · rw [if_pos e, if_pos e.symm, Int.one_mul]
    · rw [if_neg e, if_neg (fun h => e h.symm), Int.zero_mul]]
  exact sm_single v hi
theorem map_inv {xs ys : List Int} (h : mulL p n n n xs ys = oneL n) (v : RowF) : Eqv p n (mapF n (atF n xs) (mapF n (atF n ys) v)) v := fun i hi => by
  rw [← map_mul v i hi, h, map_one v hi]
theorem min_det (ok : MatOk p n n xs) (hf : Fld p) {x : List Int} (hx : MinL p n xs x) : x.getD 0 0 = 0 ↔ detF n (atF n xs) % p = 0 := by
  have hp := (rightB_true ok.hp).1
  have hp' := hf.has hp
  have hl := List.length_pos_iff.2 hx.ne
  obtain ⟨d, hd⟩ : ∃ d, x.length = d + 1 := ⟨x.length - 1, by omega⟩
  have key : ∀ v, Eqv p n (fun i => x.getD 0 0 * v i + mapF n (atF n xs) (doF n (atF n xs) d (fun j => x.getD (0 + 1 + j) 0) v) i) (fun _ => 0) := fun v i hi => by
    have h1 := (hx.all v).at_ (hd ▸ pol_low (p := p) x) i hi
    have h2 := doF_pol (p := p) (n := n) x (atF n xs) v i hi
    rw [hd] at h2
    rw [h1] at h2
    have h3 := congrFun (doF_horner (n := n) (atF n xs) d (fun j => x.getD j 0) v 0) i
    simp only [Nat.zero_add] at h3
    show (_ + _) % p = 0 % p
    simp only [Nat.zero_add]
    rw [← h3, ← h2, Int.zero_emod]
  constructor
  · intro h0
    refine Classical.byContradiction fun hdet => ?_
    have hr : (takeL p n n xs).U.length = n := Classical.byContradiction fun hn => hdet ((det_rank (n := n) hp hf ok.hx).2 hn)
    obtain ⟨u, hu⟩ := IsInv.of ok hf hr
    have hleft := hu.left ok hf hr
    have hz : ∀ v, ∀ i, i < n → doF n (atF n xs) d (fun j => x.getD (0 + 1 + j) 0) v i % p = 0 := fun v i hi => by
      rw [← map_inv hleft _ i hi]
      exact sm_mz fun j hj => mz_mul (by
        have := key v j hj
        rw [h0] at this
        simpa using this) _
    let g : Ser p := .of p fun j => if j < d then x.getD (0 + 1 + j) 0 else 0
    have hg : g.low d := fun k hk => by
      show (if k < d then _ else (0 : Int)) % p = 0
      rw [if_neg (by omega), Int.zero_emod]
    have hgz : g = 0 := hx.less hp (f := g) (by rw [hd]; exact hg) fun v _ => ⟨d, hg, fun i hi => by
      rw [← hz v i hi]
      exact do_mod (Eqv.refl v) (fun k hk => by
        show (if k < d then _ else (0 : Int)) % p % p = _
        rw [if_pos hk, Int.emod_emod]) i hi⟩
    have h1 := hx.mon
    unfold lead at h1
    rw [hd, Nat.add_sub_cancel] at h1
    rcases Nat.eq_zero_or_pos d with q | q
    · rw [q] at h1; omega
    · have h2 : g.co (d - 1) = 0 := by rw [hgz]; rfl
      have h3 : g.co (d - 1) = 1 := by
        show (if d - 1 < d then x.getD (0 + 1 + (d - 1)) 0 else 0) % p = 1
        rw [if_pos (by omega), show 0 + 1 + (d - 1) = d by omega, h1]; exact mod_small (by omega) (by omega)
      omega
  · intro hdet
    refine Classical.byContradiction fun h0 => ?_
    have hr0 := hx.isp.rng.getD hp 0
    obtain ⟨b, hb⟩ := hp'.2 (x.getD 0 0) (by rw [mod_small hr0.1 hr0.2]; exact h0)
    let w : Nat → RowF := fun k => doF n (atF n xs) d (fun j => x.getD (0 + 1 + j) 0) (uniF k)
    let u : List Int := grid n n fun i k => -b * w k i % p
    have hone : mulL p n n n xs u = oneL n := by
      unfold mulL oneL
      refine grid_congr fun i k hi hk => ?_
      have e : dv p n (fun j => xs.getD (i * n + j) 0) (fun j => u.getD (j * n + k) 0) = (-b * mapF n (atF n xs) (w k) i) % p := by
        unfold dv mapF
        rw [← sm_mul]
        refine sm_mod fun j hj => ?_
        show xs.getD (i * n + j) 0 * u.getD (j * n + k) 0 % p = -b * (xs.getD (i * n + j) 0 * w k j) % p
        rw [grid_get _ hj hk, mm_r]
        exact congrArg (· % p) (by grind)
      have hk' := key (uniF k) i hi
      have hk2 : (x.getD 0 0 * uniF k i + mapF n (atF n xs) (w k) i) % p = 0 := by rw [← Int.zero_emod p]; exact hk'
      have e2 : (-b * mapF n (atF n xs) (w k) i) % p = uniF k i % p := by
        refine mz_sub.2 ?_
        rw [show -b * mapF n (atF n xs) (w k) i - uniF k i = -b * (x.getD 0 0 * uniF k i + mapF n (atF n xs) (w k) i) + (x.getD 0 0 * b - 1) * uniF k i by grind]
        exact mz_add (mz_mul hk2 _) (mz_mul' (mz_sub.1 (by rw [hb, hp'.one])) _)
      rw [e, e2]
      unfold uniF
      split
      · exact hp'.one
      · exact Int.zero_emod _
    have hd := det_product (n := n) (ys := u) hp hf ok.hx
    rw [hone, det_one, hp'.one, hdet, Int.zero_mul, Int.zero_emod] at hd
    omega
end Go.Proofs.YthomeenmcajmdaaGreatDoor
