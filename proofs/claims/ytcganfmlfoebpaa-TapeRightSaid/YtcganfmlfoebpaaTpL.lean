/- What is told of numbers that are drawn, by the words that count. -/
import Derived.Test.YtcganfmlfoebpaaTp6
namespace Go.Proofs.Ytcganfmlfoebpaa
open Go.RowKit Go.Maps

theorem goodB_0 {p : Int} (h : rightB p = true) : goodB p 0 = cntB p := funext fun _ => good0 (rightB_true h).1
theorem cntB_no {p : Int} (h : rightB p = false) (x : Int) : cntB p x = false := by unfold cntB; rw [h]; rfl
theorem tapeB_yes {K : Nat} {xs : List Int} (hl : xs.length ≤ 65536) (hK : K ≤ xs.length) : tapeB K xs = true := by
  unfold tapeB; simp; omega
theorem dMay_yes {p : Int} {n K : Nat} {xs : List Int} (hp : rightB p = true) (hl : xs.length ≤ 65536) (hK : K ≤ xs.length) (hn : n ≤ 8192) : dMay p n K xs = true := by
  unfold dMay; rw [hp, tapeB_yes hl hK]; simp; omega
theorem many_yes {p m : Int} {n K : Nat} {xs : List Int} (hp : rightB p = true) (hl : xs.length ≤ 65536) (hK : K ≤ xs.length) (hn : n ≤ 8192) (h : n ≤ ((xs.drop K).filter (goodB p m)).length) :
    drL p m n K xs = (((xs.drop K).filter (goodB p m)).take n).map (fun x => x % p) ∧ drK p m n K xs = ((K + used (goodB p m) n (xs.drop K) : Nat) : Int) ∧ drE p m n K xs = 0 := by
  obtain ⟨h1, h2, h3⟩ := dr_yes (m := m) (dMay_yes hp hl hK hn) (decide_eq_true h)
  exact ⟨h2, h3, h1⟩
theorem many_no {p m : Int} {n K : Nat} {xs : List Int} (hp : rightB p = true) (hl : xs.length ≤ 65536) (hK : K ≤ xs.length) (hn : n ≤ 8192) (h : ((xs.drop K).filter (goodB p m)).length < n) :
    drL p m n K xs = [] ∧ drK p m n K xs = (xs.length : Int) ∧ drE p m n K xs = 9 := by
  obtain ⟨h1, h2, h3⟩ := dr_short (m := m) (dMay_yes hp hl hK hn) (decide_eq_false (show ¬ n ≤ _ by omega))
  refine ⟨h2, ?_, h1⟩
  rw [h3, used_end _ _ h, List.length_drop]
  congr 1; omega
theorem left_yes {p : Int} {K : Nat} {xs : List Int} (hl : xs.length ≤ 65536) (hK : K ≤ xs.length) : leftN p K xs = ((xs.drop K).filter (cntB p)).length := by
  unfold leftN; rw [tapeB_yes hl hK]; rfl
/-- one word alone -/
theorem one_yes {p z : Int} (hp : rightB p = true) (hz : cntB p z = true) : drX p 0 [z] = z % p ∧ drK p 0 1 0 [z] = 1 ∧ drE p 0 1 0 [z] = 0 := by
  have hg : goodB p 0 z = true := by rw [goodB_0 hp]; exact hz
  have hf : ([z].drop 0).filter (goodB p 0) = [z] := by simp [hg]
  obtain ⟨h1, h2, h3⟩ := many_yes (m := 0) (n := 1) (K := 0) (xs := [z]) hp (by simp) (by simp) (by omega) (by rw [hf]; simp)
  refine ⟨?_, ?_, h3⟩
  · have h1' : drL p 0 1 0 [z] = _ := h1
    unfold drX
    rw [h1', hf]; rfl
  · have h2' : drK p 0 1 0 [z] = _ := h2
    rw [h2']
    have : used (goodB p 0) 1 (List.drop 0 [z]) = 1 := by rw [List.drop_zero, used_yes hg, used_zero]
    rw [this]; rfl
/-- a row of p words -/
theorem row_counts {p x i : Int} (hp : rightB p = true) (h0 : 0 ≤ x) (h1 : x ≤ 18446744073709551615) (hc : cntB p x = true) (hi0 : 0 ≤ i) (hi : i < p) :
    x - x % p + i ≤ 18446744073709551615 ∧ cntB p (x - x % p + i) = true ∧ (x - x % p + i) % p = i := by
  have hp2 := rightB_true hp
  have hcc := hc
  unfold cntB at hcc
  rw [hp, Bool.true_and, decide_eq_true_eq, cnt_first hp2.1 hp2.2 h0 h1] at hcc
  have hr := mod_range x hp2.1
  have hd : (x - x % p) % p = 0 := by rw [Int.sub_emod]; simp
  have e : (x - x % p + i) % p = i := by rw [Int.add_emod, hd, Int.zero_add, Int.emod_emod, Int.emod_eq_of_lt hi0 hi]
  have hx0 : 0 ≤ x - x % p := by
    have a3 := Int.ediv_mul_add_emod x p
    have a4 := Int.mul_nonneg (Int.ediv_nonneg h0 (show 0 ≤ p by omega)) (show 0 ≤ p by omega)
    omega
  refine ⟨by omega, ?_, e⟩
  unfold cntB
  rw [hp, Bool.true_and, decide_eq_true_eq, cnt_first hp2.1 hp2.2 (by omega) (by omega), e]
  omega
theorem off_counts {p x : Int} (hp : rightB p = true) (h1 : x ≤ 18446744073709551615) (hc : cntB p x = false) : 18446744073709551615 - p < x ∧ cntB p 18446744073709551615 = false := by
  have hp2 := rightB_true hp
  have hr := mod_range (p := p) 18446744073709551616 hp2.1
  unfold cntB at *
  rw [hp, Bool.true_and, decide_eq_false_iff_not] at *
  omega
/-- all that can be drawn, in one part and in two -/
theorem part_facts {p : Int} {K kk : Nat} {xs : List Int} (hp : rightB p = true) (hl : xs.length ≤ 8000) (hK : K ≤ xs.length) (hk : kk ≤ ((xs.drop K).filter (cntB p)).length) :
    ∃ U V : Nat, K ≤ V ∧ V ≤ xs.length ∧ U ≤ xs.length ∧
    (drL p 0 (((xs.drop K).filter (cntB p)).length : Nat) K xs = ((xs.drop K).filter (cntB p)).map (fun x => x % p) ∧ drK p 0 (((xs.drop K).filter (cntB p)).length : Nat) K xs = U ∧ drE p 0 (((xs.drop K).filter (cntB p)).length : Nat) K xs = 0) ∧
    (drL p 0 (((((xs.drop K).filter (cntB p)).length : Nat) : Int) + 1) K xs = [] ∧ drK p 0 (((((xs.drop K).filter (cntB p)).length : Nat) : Int) + 1) K xs = (xs.length : Int) ∧ drE p 0 (((((xs.drop K).filter (cntB p)).length : Nat) : Int) + 1) K xs = 9) ∧
    leftN p U xs = 0 ∧
    (drL p 0 kk K xs = (((xs.drop K).filter (cntB p)).take kk).map (fun x => x % p) ∧ drK p 0 kk K xs = V ∧ drE p 0 kk K xs = 0) ∧
    (drL p 0 ((((xs.drop K).filter (cntB p)).length - kk : Nat) : Int) V xs = (((xs.drop K).filter (cntB p)).drop kk).map (fun x => x % p) ∧ drK p 0 ((((xs.drop K).filter (cntB p)).length - kk : Nat) : Int) V xs = U ∧ drE p 0 ((((xs.drop K).filter (cntB p)).length - kk : Nat) : Int) V xs = 0) := by
  have hg := goodB_0 hp
  obtain ⟨ws, hws⟩ : ∃ ws, xs.drop K = ws := ⟨_, rfl⟩
  rw [hws] at hk ⊢
  have hwl : ws.length = xs.length - K := by rw [← hws, List.length_drop]
  obtain ⟨G, hG⟩ : ∃ G, ws.filter (cntB p) = G := ⟨_, rfl⟩
  rw [hG] at hk ⊢
  have hGl : G.length ≤ ws.length := by rw [← hG]; exact List.length_filter_le _ _
  have hGg : (xs.drop K).filter (goodB p 0) = G := by rw [hg, hws, hG]
  have hu1 := used_le (g := cntB p) ws G.length
  have hu2 := used_le (g := cntB p) ws kk
  have hD : ∀ n, xs.drop (K + used (cntB p) n ws) = ws.drop (used (cntB p) n ws) := fun n => by rw [← hws, List.drop_drop]
  refine ⟨K + used (cntB p) G.length ws, K + used (cntB p) kk ws, by omega, by omega, by omega, ?_, ?_, ?_, ?_, ?_⟩
  · obtain ⟨h1, h2, h3⟩ := many_yes (m := 0) (n := G.length) hp (by omega) hK (by omega) (by rw [hGg]; exact Nat.le_refl _)
    rw [hGg, List.take_length] at h1
    rw [hg, hws] at h2
    exact ⟨h1, h2, h3⟩
  · have e : ((G.length : Int) + 1) = ((G.length + 1 : Nat) : Int) := by omega
    rw [e]
    exact many_no (m := 0) hp (by omega) hK (by omega) (by rw [hGg]; omega)
  · rw [left_yes (xs := xs) (K := K + used (cntB p) G.length ws) (by omega) (by omega), hD, used_drop, hG, List.drop_length]; rfl
  · obtain ⟨h1, h2, h3⟩ := many_yes (m := 0) (n := kk) hp (by omega) hK (by omega) (by rw [hGg]; exact hk)
    rw [hGg] at h1
    rw [hg, hws] at h2
    exact ⟨h1, h2, h3⟩
  · have hf : (xs.drop (K + used (cntB p) kk ws)).filter (goodB p 0) = G.drop kk := by rw [hg, hD, used_drop, hG]
    obtain ⟨h1, h2, h3⟩ := many_yes (m := 0) (n := G.length - kk) (K := K + used (cntB p) kk ws) (xs := xs) hp (by omega) (by omega) (by omega) (by rw [hf, List.length_drop]; exact Nat.le_refl _)
    rw [hf, List.take_of_length_le (by rw [List.length_drop]; exact Nat.le_refl _)] at h1
    refine ⟨h1, ?_, h3⟩
    rw [h2, hg, hD]
    congr 1
    have := used_add (g := cntB p) ws kk (G.length - kk)
    rw [show kk + (G.length - kk) = G.length by omega] at this
    omega
theorem good1 (p x : Int) (h : 2 ≤ p) : goodB p 1 x = (cntB p x && decide (x % p ≠ 0)) := by
  unfold goodB
  congr 1
  have := Int.emod_nonneg x (show p ≠ 0 by omega)
  rw [Bool.eq_iff_iff, decide_eq_true_eq, decide_eq_true_eq]
  omega
/-- as many as aren't 0 -/
theorem some_len {p : Int} (h : 2 ≤ p) : ∀ ws : List Int, (ws.filter (goodB p 1)).length = (((ws.filter (cntB p)).map (fun x => x % p)).filter (fun y => decide (y ≠ 0))).length
  | [] => rfl
  | x :: ws => by
    have ih := some_len h ws
    rw [List.filter_cons, List.filter_cons, good1 p x h]
    cases hc : cntB p x
    · simpa using ih
    · rw [Bool.true_and, if_pos rfl, List.map_cons, List.filter_cons]
      split
      · rw [List.length_cons, List.length_cons, ih]
      · exact ih
theorem other_facts {p : Int} {K S : Nat} {xs : List Int} (hp : rightB p = true) (hl : xs.length ≤ 8000) (hK : K ≤ xs.length) (hS : S = ((((xs.drop K).filter (cntB p)).map (fun x => x % p)).filter (fun y => decide (y ≠ 0))).length) :
    ∃ (O : List Int) (J : Nat), O.length = S ∧ (drL p 1 S K xs = O ∧ drK p 1 S K xs = J ∧ drE p 1 S K xs = 0) ∧ (drL p 1 ((S : Int) + 1) K xs = [] ∧ drK p 1 ((S : Int) + 1) K xs = (xs.length : Int) ∧ drE p 1 ((S : Int) + 1) K xs = 9) := by
  have hs := some_len (rightB_true hp).1 (xs.drop K)
  rw [← hS] at hs
  have hle := List.length_filter_le (goodB p 1) (xs.drop K)
  rw [List.length_drop] at hle
  refine ⟨_, _, ?_, many_yes (m := 1) (n := S) hp (by omega) hK (by omega) (by omega), ?_⟩
  · rw [List.length_map, List.length_take]; omega
  · have e : ((S : Int) + 1) = ((S + 1 : Nat) : Int) := by omega
    rw [e]
    exact many_no (m := 1) hp (by omega) hK (by omega) (by omega)
theorem nums_has {p : Int} (hp : rightB p = true) (G : List Int) : hasB p (G.map fun x => x % p) = true := hasB_mk hp fun x hx => by
  obtain ⟨y, _, rfl⟩ := List.mem_map.1 hx
  exact (mod_range y (rightB_true hp).1).2
theorem nums_u64 {p : Int} (hp : rightB p = true) (G : List Int) : U64s (G.map fun x => x % p) := fun x hx => by
  obtain ⟨y, _, rfl⟩ := List.mem_map.1 hx
  have := mod_range y (rightB_true hp).1
  have := rightB_true hp
  omega
end Go.Proofs.Ytcganfmlfoebpaa
