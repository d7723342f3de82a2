/- The row of numbers that a vector makes of a matrix's powers of another one: its shortest rule's polynomial divides whatever makes 0 (in plain Lean; nothing of a program). -/
import Derived.Test.YtfpmcajndgkgeaaBun30
import Derived.Test.YtfpmcajndgkgeaaBun35
namespace Go.Proofs.Ytfpmcajndgkgeaa
variable {p : Int} {n : Nat}

/-- the row, without an end -/
def rowU (p : Int) (n : Nat) (A : Nat → RowF) (u v : RowF) : Ser p := .of p fun i => sm n fun j => u j * itF n A i v j
theorem rowU_co (A : Nat → RowF) (u v : RowF) (i : Nat) : (rowU p n A u v).co i = (sm n fun j => u j * itF n A i v j) % p := rfl
/-- it obeys whatever makes 0, turned -/
theorem kil_ob {A : Nat → RowF} {u v : RowF} {g : Ser p} {k : Nat} (hg : g.low (k + 1)) (h1 : g.co k = 1) (hk : Kil p n A g v) (N : Nat) : Ob (rowU p n A u v) (Ser.rev k g) k N := by
  refine ⟨Ser.rev_low k g, by rw [Ser.rev_co, if_pos (Nat.zero_le _), Nat.sub_zero, h1], fun i hi _ => ?_⟩
  rw [Ser.mul_co]
  unfold cv
  rw [sm_cut (d := k + 1) (by omega) fun j hj => by rw [Ser.rev_co, if_neg (by omega), Int.zero_mul], sm_rev]
  have e1 : (sm (k + 1) fun j => (Ser.rev k g).co (k + 1 - 1 - j) * (rowU p n A u v).co (i - (k + 1 - 1 - j))) % p = (sm (k + 1) fun l => g.co l * sm n fun j => u j * itF n A (l + (i - k)) v j) % p := sm_mod fun l hl => by
    rw [Ser.rev_co, if_pos (by omega), rowU_co, mm_r, show k - (k + 1 - 1 - l) = l by omega, show i - (k + 1 - 1 - l) = l + (i - k) by omega]
  rw [e1, sm_congr (g := fun l => sm n fun j => u j * (g.co l * itF n A l (itF n A (i - k) v) j)) fun l _ => by
    rw [← sm_mul]
    exact sm_congr fun j _ => by rw [itF_add]; grind, sm_comm]
  refine sm_mz fun j hj => ?_
  rw [sm_mul]
  exact mz_mul ((hk.it (i - k)).at_ hg j hj) _
/-- .. as a list -/
def serL (p : Int) (n : Nat) (xs us vs : List Int) (m : Nat) : List Int := tab m fun i => dotZ us (powL p n xs i vs) % p
theorem serL_len (xs us vs : List Int) (m : Nat) : (serL p n xs us vs m).length = m := tab_len _ _
theorem serL_rng (hp : 2 ≤ p) (xs us vs : List Int) (m : Nat) : Rng p (serL p n xs us vs m) := tab_rng fun _ _ => mod_range _ hp
theorem serL_co {xs us vs : List Int} {m i : Nat} (hu : us.length = n) (hv : vs.length = n) (hi : i < m) : (pol p (serL p n xs us vs m)).co i = (rowU p n (atF n xs) (atV us) (atV vs)).co i := by
  rw [pol_co, serL, tab_get _ hi, rowU_co, Int.emod_emod, dv_dotZ hu (powL_len hv i)]
  unfold dv
  exact sm_mod fun j hj => by
    have h := powL_mod (p := p) (xs := xs) (v := vs) i j hj
    rw [← mm_r]
    show atV us j * (atV (powL p n xs i vs) j % p) % p = _
    rw [h, mm_r]
/-- what is left by the rule's polynomial is nothing -/
theorem rule_div {xs us vs d f qs rs : List Int} (hp : 2 ≤ p) (hF : Fld p) (hu : us.length = n) (hv : vs.length = n) (hd : RuleIs p (serL p n xs us vs (2 * n)) d) (hf : Pol p f) (f0 : f ≠ []) (f1 : lead f = 1) (hfl : f.length ≤ n + 1) (hk : Kil p n (atF n xs) (pol p f) (atV vs))
    (hr : Pol p rs) (e : pol p f = pol p qs * pol p d.reverse + pol p rs) (hrl : rs.length < d.reverse.length) (hql : qs.length = f.length + 1 - d.reverse.length) : rs = [] := by
  obtain ⟨d1, d2, d3, d4, d5, d6⟩ := hd
  rw [serL_len] at d5 d6
  have hfl0 := List.length_pos_iff.2 f0
  rw [List.length_reverse] at hrl hql
  have hfk : (pol p f).co (f.length - 1) = 1 := by rw [hf.rng.co]; exact f1
  have hob := fun N => kil_ob (u := atV us) (k := f.length - 1) ((pol_low f).mono (by omega)) hfk hk N
  have hst : ∀ i, i < 2 * n → (pol p (serL p n xs us vs (2 * n))).co i = (rowU p n (atF n xs) (atV us) (atV vs)).co i := fun i hi => serL_co hu hv hi
  have hm : d.length - 1 ≤ f.length - 1 := d6 _ _ ((hob (2 * n)).congr fun i hi => (hst i hi).symm)
  have hdT : Ob (rowU p n (atF n xs) (atV us) (atV vs)) (pol p d) (d.length - 1) (2 * n) := d5.congr hst
  have hdl : 1 ≤ d.length := by
    refine Classical.byContradiction fun hn => ?_
    have h0 := d5.one
    rw [show d = [] from List.eq_nil_of_length_eq_zero (by omega), pol_nil, Ser.zero_co] at h0
    omega
  have hD : Ser.rev (d.length - 1) (pol p d.reverse) = pol p d := by
    rw [pol_rev (n := d.length - 1) (by omega)]
    exact Ser.rev_rev ((pol_low d).mono (by omega))
  refine finds_div (n := f.length - 1) (m := d.length - 1) (N := f.length - 1 + 2 * n) hp hF rfl hD ((pol_low _).mono (by rw [List.length_reverse]; omega)) hm (by omega) hr (by omega) e (hob _) ((hob _).follow hdT (by omega) _ (Nat.le_refl _)) (fun i hi => hst i (by omega)) fun c' l' h => d6 c' l' (by rwa [Nat.add_sub_cancel_left] at h)
end Go.Proofs.Ytfpmcajndgkgeaa
