/- Shortest rules of rows that are cut, scaled, moved on or added. -/
import Derived.Test.YtbpbagejblbacaaSerRule2
import Derived.Test.YtbpbagejblbacaaFld
namespace Go.Proofs.Ytbpbagejblbacaa
open Go.RowKit
variable {p : Int}

/-- what Rule answers, over a prime -/
def RetR (p : Int) (s : List Int) (w : World) (e : Ending) (w' : World) : Prop :=
  ∃ a cap n c, e = .returned (.tuple #[.slice a n cap, .int .i64 0]) ∧ Hid (c.length = n) ∧ Hid (Ints .u64 w' (.slice a n cap) c) ∧ Ext w w' ∧ Hid (RuleIs p s c)
theorem sRule_p (p : Int) (v : Value) (s : List Int) (w : World) (hp : rightB p = true) (hF : Fld p) (hv : Ints .u64 w v s) (hs : Rng p s) (hl : s.length ≤ 256) :
    Calls Try.prog 19 #[.int .u64 p, v] w (RetR p s w) := by
  refine (sRule p v s w hp hv hs hl).mono ?_
  rintro e w' (⟨v, c, rfl, h1, h2, h3⟩ | ⟨d, rfl, h2, h3, h4, h5⟩)
  · have h1' := h1
    obtain ⟨a, cap, rfl, _⟩ := h1
    exact ⟨a, cap, _, c, rfl, rfl, h1', h2, h3⟩
  · rw [hF d h3 h4] at h5; cases h5

theorem ruleB_iff' {c : List Int} (h : ruleB p c = true) : rightB p = true ∧ 0 < c.length ∧ c.length < 258 ∧ c.getD 0 0 = 1 := by
  unfold ruleB at h
  simp only [Bool.and_eq_true, decide_eq_true_eq] at h
  exact ⟨(hasB_true h.2.2.1).1, h.1, h.2.1, h.2.2.2⟩
theorem RuleIs.cut {s c d : List Int} {k : Nat} (h : RuleIs p s c) (h' : RuleIs p (s.take k) d) (hk : k ≤ s.length) : d.length ≤ c.length := by
  obtain ⟨_, _, c1, _, c3, c4⟩ := h
  obtain ⟨_, _, d1, _, d3, d4⟩ := h'
  have hl : (s.take k).length = k := by rw [List.length_take]; omega
  rw [hl] at d3 d4
  have := d4 (pol p c) (c.length - 1) ((c3.less hk).congr fun i hi => (pol_take_co s hi).symm)
  omega
theorem RuleIs.nought {n : Nat} {z : List Int} (hp : 2 ≤ p) (h : RuleIs p (List.replicate n 0) z) : z.length = 1 := by
  obtain ⟨_, _, d1, _, d3, d4⟩ := h
  have := d4 1 0 ⟨fun k hk => by rw [← Ser.C_one, Ser.C_co, if_neg (by omega)], by rw [← Ser.C_one, Ser.C_co, if_pos rfl]; exact mod_small (by omega) (by omega), fun i h1 h2 => by rw [Ser.one_mul, pol_co, replicate_get, Int.zero_emod]⟩
  omega
theorem Ob.scale {s c : Ser p} {l n : Nat} (x : Int) (h : Ob s c l n) : Ob (Ser.C p x * s) c l n :=
  ⟨h.low, h.one, fun i h1 h2 => by rw [Ser.mul_left_comm, Ser.C_mul_co, h.obe i h1 h2]; simp⟩
theorem Ob.unscale {s c : Ser p} {l n : Nat} {x y : Int} (hp : 2 ≤ p) (hxy : x * y % p = 1) (h : Ob (Ser.C p x * s) c l n) : Ob s c l n := by
  have h2 := h.scale y
  rw [← Ser.mul_assoc, Ser.C_mul, Ser.C_congr (show y * x % p = 1 % p by rw [Int.mul_comm, hxy]; exact (mod_small (by omega) (by omega)).symm), Ser.C_one, Ser.one_mul] at h2
  exact h2
theorem scale_pol (s : List Int) (x : Int) : pol p (s.map fun y => y * x % p) = Ser.C p x * pol p s := Ser.ext_ fun k => by
  rw [pol_co, Ser.C_mul_co, pol_co, mm_r]
  rcases Nat.lt_or_ge k s.length with h | h
  · have : (s.map fun y => y * x % p).getD k 0 = s.getD k 0 * x % p := by simp [List.getD, h]
    rw [this, Int.emod_emod_of_dvd _ (Int.dvd_refl _), Int.mul_comm]
  · rw [getD_over (by simpa using h), getD_over h]; simp
theorem RuleIs.scaled {s c u : List Int} {x y : Int} (hp : 2 ≤ p) (hxy : x * y % p = 1) (hs : Rng p s) (h : RuleIs p s c) (h' : RuleIs p (s.map fun z => z * x % p) u) :
    u.length = c.length ∧ obeysB p (s.map fun z => z * x % p) c = true ∧ obeysB p s u = true := by
  obtain ⟨c0, cr, c1, _, c3, c4⟩ := h
  obtain ⟨d0, dr, d1, _, d3, d4⟩ := h'
  have hr := (rightB_true ((ruleB_iff' c0).1)).2
  rw [List.length_map, scale_pol] at d3 d4
  have e1 := d4 _ _ (c3.scale x)
  have e2 := c4 _ _ (d3.unscale hp hxy)
  have ht : Rng p (s.map fun z => z * x % p) := fun y hy => by
    obtain ⟨z, _, rfl⟩ := List.mem_map.1 hy
    exact mod_range _ hp
  refine ⟨by omega, (obeysB_iff (ht.u64 hr) (cr.u64 hr)).2 ⟨c0, ht, ?_⟩, (obeysB_iff (hs.u64 hr) (dr.u64 hr)).2 ⟨d0, hs, d3.unscale hp hxy⟩⟩
  rw [List.length_map, scale_pol]
  exact c3.scale x
theorem Ob.tail {s s' c : Ser p} {l n : Nat} (hs : ∀ i, s'.co i = s.co (i + 1)) (h : Ob s c l (n + 1)) : Ob s' c l n :=
  ⟨h.low, h.one, fun i h1 h2 => by
    rw [← h.obe (i + 1) (by omega) (by omega), Ser.mul_co, Ser.mul_co, cv, cv, show ∀ f : Nat → Int, sm (i + 1 + 1) f = sm (i + 1) f + f (i + 1) from fun _ => rfl]
    rw [h.low (i + 1) (by omega), Int.zero_mul, Int.add_zero]
    congr 1
    exact sm_congr fun j hj => by rw [hs, show i + 1 - j = i - j + 1 by omega]⟩
theorem RuleIs.tail {s a b : List Int} (hs : 0 < s.length) (h : RuleIs p s a) (h' : RuleIs p (s.drop 1) b) : b.length ≤ a.length := by
  obtain ⟨_, _, c1, _, c3, c4⟩ := h
  obtain ⟨_, _, d1, _, d3, d4⟩ := h'
  have hl : (s.drop 1).length = s.length - 1 := by simp
  rw [hl] at d4
  have := d4 (pol p a) (a.length - 1) (Ob.tail (s := pol p s) (fun i => by rw [pol_co, pol_co, drop_get, Nat.add_comm]) (by rw [show s.length - 1 + 1 = s.length by omega]; exact c3))
  omega
theorem mul_zero_at {b y : Ser p} {m i : Nat} (hb : b.low (m + 1)) (hy : ∀ k, i ≤ k + m → k ≤ i → y.co k = 0) : (b * y).co i = 0 := by
  rw [Ser.mul_co, cv, sm_zero fun j hj => ?_, Int.zero_emod]
  rcases Nat.lt_or_ge m j with h | h
  · rw [hb j h, Int.zero_mul]
  · rw [hy (i - j) (by omega) (by omega), Int.mul_zero]
theorem Ob.add {s t c d : Ser p} {l m n : Nat} (h : Ob s c l n) (h' : Ob t d m n) : Ob (s + t) (c * d) (l + m) n := by
  refine ⟨(h.low.mul h'.low).mono (by omega), ?_, fun i h1 h2 => ?_⟩
  · rw [Ser.mul_co_low (fun i h1 h2 => by omega), h.one, h'.one, Int.one_mul, ← h.one, Ser.ok]
  · rw [Ser.mul_add, Ser.add_co, Ser.mul_comm c d, Ser.mul_assoc, mul_zero_at h'.low (fun k h3 h4 => h.obe k (by omega) (by omega)), Ser.mul_comm d c, Ser.mul_assoc, mul_zero_at h.low (fun k h3 h4 => h'.obe k (by omega) (by omega))]
    simp
def sumL (p : Int) (s t : List Int) : List Int := (List.range s.length).map fun i => (s.getD i 0 + t.getD i 0) % p
theorem sumL_len (s t : List Int) : (sumL p s t).length = s.length := by simp [sumL]
theorem sumL_rng (hp : 2 ≤ p) (s t : List Int) : Rng p (sumL p s t) := fun x hx => by
  unfold sumL at hx
  obtain ⟨i, _, rfl⟩ := List.mem_map.1 hx
  exact mod_range _ hp
theorem sumL_get (s t : List Int) {k : Nat} (h : k < s.length) : (sumL p s t).getD k 0 = (s.getD k 0 + t.getD k 0) % p := by simp [sumL, List.getD, h]
theorem sumL_pol {s t : List Int} (hl : t.length = s.length) : pol p (sumL p s t) = pol p s + pol p t := Ser.ext_ fun k => by
  rw [Ser.add_co, pol_co, pol_co, pol_co, ma_l, ma_r]
  rcases Nat.lt_or_ge k s.length with h | h
  · rw [sumL_get s t h, Int.emod_emod_of_dvd _ (Int.dvd_refl _)]
  · rw [getD_over (by rw [sumL_len]; exact h), getD_over h, getD_over (by omega)]; simp
theorem RuleIs.sum {s t a b d : List Int} (hl : t.length = s.length) (h : RuleIs p s a) (h' : RuleIs p t b) (h2 : RuleIs p (sumL p s t) d) : d.length + 1 ≤ a.length + b.length := by
  obtain ⟨_, _, c1, _, c3, c4⟩ := h
  obtain ⟨_, _, d1, _, d3, d4⟩ := h'
  obtain ⟨_, _, e1, _, e3, e4⟩ := h2
  rw [sumL_len, sumL_pol hl] at e4
  rw [hl] at d3
  have := e4 _ _ (c3.add d3)
  omega
end Go.Proofs.Ytbpbagejblbacaa
