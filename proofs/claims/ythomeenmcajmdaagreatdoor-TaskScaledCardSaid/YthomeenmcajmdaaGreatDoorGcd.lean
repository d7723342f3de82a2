import Derived.Test.YthomeenmcajmdaaGreatDoorBun19
import Derived.Test.YthomeenmcajmdaaGreatDoorBun20
namespace Go.Proofs.YthomeenmcajmdaaGreatDoor
open Go.RowKit
def RetGcd (p : Int) (xs ys : List Int) (w : World) (e : Ending) (w' : World) : Prop := ∃ v G, e = .returned (.tuple #[v, .int .i64 0]) ∧ Ints .u64 w' v G ∧ IsGcd p xs ys G ∧ Ext w w'
set_option maxHeartbeats 400000 in
theorem pGcd_yes (p : Int) (v u : Value) (xs ys : List Int) (w : World) (hp : rightB p = true) (hF : Fld p) (hv : Ints .u64 w v xs) (hu : Ints .u64 w u ys) (hx : Pol p xs) (hy : Pol p ys) (hl : xs.length ≤ 512 ∧ ys.length ≤ 512) :
    Calls Tryz.prog 145 #[.int .u64 p, v, u] w (RetGcd p xs ys w) := by
  have hp2 := rightB_true hp
  have c1 := hid (euclid_yes p v u xs ys w hp hF hv hu hx hy hl)
  have Hp := hid hp; have HF := hid hF
  clear hp hF hv hu hx hy
  go_enter Tryz.func145, Tryz.ntmps145
  go_wp2_with fail
  refine c1.out.mono ?_
  rintro _ w1 ⟨vq, ve, qs, R, rfl, _, _, h1, h2, h3, h4, h5, _, h6⟩
  have H1 := hid h1; have H2 := hid h2; have H3 := hid h3; have H4 := hid h4; have H5 := hid h5
  clear h1 h2 h3 h4 h5
  go_wp2_with fail
  by_cases e : R qs.length = []
  · have E := hid e
    clear e
    refine (pMonic_nil p ve w1 Hp.out (by have := H1.out; rw [E.out] at this; exact this)).mono ?_
    rintro _ w2 ⟨v2, zs, rfl, k1, k2, k3, k4⟩
    go_wp2_with fail
    go_ret2
    have hg := H3.out.gcd hp2.1 H2.out k2 (fun h => absurd (k2.zero k3) h) (c := 1) (d := 0) (by rw [k3, E.out, pol_nil, Ser.zero_mul]) (.inr E.out)
    rw [H4.out, H5.out] at hg
    exact ⟨v2, zs, rfl, k1, hg, h6.trans k4⟩
  · have E := hid e
    clear e
    refine (pMonic_yes p ve _ w1 Hp.out H1.out (H3.out.isp _ (by omega)) E.out (H3.out.len _ (by omega)) (HF.out.unit_lead (H3.out.isp _ (by omega)) E.out)).mono ?_
    rintro _ w2 ⟨v2, zs, rfl, k1, k2, k3, k4⟩
    go_wp2_with fail
    go_ret2
    have hm := minv_range p (lead (R qs.length)) hp2.1
    have hli := HF.out.linv hp2.1 (H3.out.isp qs.length (by omega)) E.out
    have hmo := monic_of (H3.out.isp qs.length (by omega)) E.out k2 k3 hli hm.1 hm.2
    have hg := H3.out.gcd hp2.1 H2.out k2 (fun _ => hmo.2.1) k3 (.inl (by rw [Int.mul_comm]; exact hli))
    rw [H4.out, H5.out] at hg
    exact ⟨v2, zs, rfl, k1, hg, h6.trans k4⟩
def RetLcm (p : Int) (xs ys : List Int) (w : World) (e : Ending) (w' : World) : Prop := ∃ v L, e = .returned (.tuple #[v, .int .i64 0]) ∧ Ints .u64 w' v L ∧ Pol p L ∧ ((xs = [] ∨ ys = []) → L = []) ∧
  (xs ≠ [] → ys ≠ [] → L ≠ [] ∧ lead L = 1 ∧ ∃ G c, IsGcd p xs ys G ∧ pol p L * pol p G = Ser.C p c * (pol p xs * pol p ys)) ∧ Ext w w'
theorem IsGcd.len {p : Int} (hp : 2 ≤ p) {A B G : List Int} (h : IsGcd p A B G) (hA : Pol p A) (hB : Pol p B) (a0 : A ≠ []) : G ≠ [] ∧ G.length ≤ A.length := by
  have g0 : G ≠ [] := fun e => a0 ((h.nil hA hB).1 e).1
  obtain ⟨u, hu, e⟩ := h.da
  exact ⟨g0, len_mul hA a0 h.isp (i := 1) (by rw [h.mon g0]; exact mod_small (by omega) (by omega)) hu e⟩
set_option maxHeartbeats 1000000 in
theorem pLcm_yes (p : Int) (v u : Value) (xs ys : List Int) (w : World) (hp : rightB p = true) (hF : Fld p) (hv : Ints .u64 w v xs) (hu : Ints .u64 w u ys) (hx : Pol p xs) (hy : Pol p ys) (hl : xs.length ≤ 512 ∧ ys.length ≤ 512) (hl2 : xs.length + ys.length ≤ 513) :
    Calls Tryz.prog 117 #[.int .u64 p, v, u] w (RetLcm p xs ys w) := by
  have hp2 := rightB_true hp
  have c1 := hid (pGcd_yes p v u xs ys w hp hF hv hu hx hy hl)
  have Hp := hid hp; have HF := hid hF; have Hv := hid hv; have Hu := hid hu; have Hx := hid hx; have Hy := hid hy
  obtain ⟨a, cap, rfl, k1, k2, k3⟩ := hv
  obtain ⟨a', cap', rfl, m1, m2, m3⟩ := hu
  clear hp hF hx hy k3 m3
  by_cases hx0 : xs.length = 0
  · have e := List.eq_nil_of_length_eq_zero hx0
    have E := hid e
    rw [hx0] at c1 ⊢
    clear e
    go_enter Tryz.func117, Tryz.ntmps117
    go_wp2_with fail
    refine c1.out.mono ?_
    rintro _ w1 ⟨v1, G, rfl, g1, g2, g3⟩
    clear g2
    go_wp2_with fail
    go_ret2
    exact ⟨_, [], rfl, Ints.nil, Pol.nil, fun _ => rfl, fun h => absurd E.out h, g3⟩
  by_cases hy0 : ys.length = 0
  · have e := List.eq_nil_of_length_eq_zero hy0
    have E := hid e
    rw [hy0] at c1 ⊢
    have b1 : ((xs.length : Int) == 0) = false := by rw [beq_eq_false_iff_ne]; omega
    clear e
    go_enter Tryz.func117, Tryz.ntmps117
    go_wp2_with fail
    refine c1.out.mono ?_
    rintro _ w1 ⟨v1, G, rfl, g1, g2, g3⟩
    clear g2
    go_wp2_with fail
    go_ret2
    exact ⟨_, [], rfl, Ints.nil, Pol.nil, fun _ => rfl, fun _ h => absurd E.out h, g3⟩
  have ex : Hid (xs ≠ []) := hid (fun e => hx0 (by rw [e]; rfl))
  have ey : Hid (ys ≠ []) := hid (fun e => hy0 (by rw [e]; rfl))
  have b1 : ((xs.length : Int) == 0) = false := by rw [beq_eq_false_iff_ne]; omega
  have b2 : ((ys.length : Int) == 0) = false := by rw [beq_eq_false_iff_ne]; omega
  go_enter Tryz.func117, Tryz.ntmps117
  go_wp2_with fail
  refine c1.out.mono ?_
  rintro _ w1 ⟨v1, G, rfl, g1, g2, g3⟩
  obtain ⟨gn, gl⟩ := g2.len hp2.1 Hx.out Hy.out ex.out
  have G2 := hid g2
  have G1 := hid g1
  have cd := hid (pDiv_yes p _ v1 xs G w1 Hp.out (Hv.out.ext g3) g1 Hx.out g2.isp ⟨hl.1, by omega⟩ gn (HF.out.unit_lead g2.isp gn))
  have Gn := hid gn
  clear g2 g1 gn
  go_wp2_with fail
  refine cd.out.mono ?_
  rintro _ w2 ⟨v2, v3, q, r, rfl, d1, d2, d3, d4, d5, d6, d7, d8, _, _⟩
  have hr : pol p xs = pol p q * pol p G := by
    obtain ⟨t, ht, e⟩ := G2.out.da
    have e1 := pol_div_unique (q := pol p q) (r := pol p r) (q' := t) (r' := 0) G2.out.isp Gn.out (i := 1) (by rw [G2.out.mon Gn.out]; exact mod_small (by omega) (by omega)) (pol_poly _) ht ((pol_low r).mono (by omega)) (Ser.low_zero _) (by rw [← d5, Ser.add_zero, e])
    rw [e, e1.1]
  have q0 : q ≠ [] := fun e => ex.out (Hx.out.zero (by rw [hr, e, pol_nil, Ser.zero_mul]))
  have hlg := List.length_pos_iff.2 Gn.out
  have cm := hid (pMul_yes p v2 _ q ys w2 Hp.out d1 (Hu.out.ext (g3.trans d8)) d3 Hy.out ⟨by omega, hl.2⟩ (((pol_low q).mul (pol_low ys)).mono (by omega)))
  have D3 := hid d3; have Hr := hid hr; have Q0 := hid q0
  clear hr d1 d2 d3 d4 d5 q0 cd
  go_wp2_with fail
  refine cm.out.mono ?_
  rintro _ w3 ⟨v4, m, rfl, m4, m5, m6, m7⟩
  obtain ⟨n1, n2, n3⟩ := HF.out.mul_len hp2.1 D3.out Hy.out m5 Q0.out ey.out m6
  have co := hid (pMonic_yes p v4 m w3 Hp.out m4 m5 n2 (by omega) (HF.out.unit_lead m5 n2))
  have M5 := hid m5; have M6 := hid m6; have N2 := hid n2
  clear m4 m5 m6 n1 n2 n3 cm
  go_wp2_with fail
  refine co.out.mono ?_
  rintro _ w4 ⟨v5, L, rfl, l1, l2, l3, l4⟩
  have L1 := hid l1; have L2 := hid l2; have L3 := hid l3
  clear l1 l2 l3 co
  go_wp2_with fail
  go_ret2
  have hm := minv_range p (lead m) hp2.1
  have hmo := monic_of M5.out N2.out L2.out L3.out (HF.out.linv hp2.1 M5.out N2.out) hm.1 hm.2
  refine ⟨v5, L, rfl, L1.out, L2.out, fun h => ?_, fun _ _ => ⟨hmo.1, hmo.2.1, G, minv p (lead m), G2.out, ?_⟩, ((g3.trans d8).trans m7).trans l4⟩
  · rcases h with h | h
    · exact absurd h ex.out
    · exact absurd h ey.out
  · rw [L3.out, M6.out, Hr.out]
    ac_rfl
end Go.Proofs.YthomeenmcajmdaaGreatDoor
