/- What is told, and what the document says: the same. -/
import Derived.Test.YtcganfmlfoebpaaTpS
namespace Go.Proofs.Ytcganfmlfoebpaa
open Go.RowKit Go.Maps

theorem dr_r {p m : Int} {n K : Nat} {xs : List Int} (h : dMay p n K xs = true) :
    drL p m n K xs = rL p m n K xs ∧ drK p m n K xs = ((K + used (goodB p m) n (xs.drop K) : Nat) : Int) ∧ drE p m n K xs = rE (goodB p m) n K xs := by
  cases ho : okW (goodB p m) n (xs.drop K)
  · obtain ⟨h1, h2, h3⟩ := dr_short (m := m) h ho
    exact ⟨by rw [h2, rL, ho]; rfl, h3, by rw [h1, rE, ho]; rfl⟩
  · obtain ⟨h1, h2, h3⟩ := dr_yes (m := m) h ho
    exact ⟨by rw [h2, rL, ho]; rfl, h3, by rw [h1, rE, ho]; rfl⟩
theorem drX_r {p : Int} {K : Nat} {xs : List Int} (h : dMay p 1 K xs = true) : drX p K xs = r1X p 0 K xs := by
  have h' : dMay p (1 : Nat) K xs = true := h
  cases ho : okW (goodB p 0) 1 (xs.drop K)
  · obtain ⟨_, h2, _⟩ := dr_short (m := 0) h' ho
    have h2' : drL p 0 1 K xs = [] := h2
    unfold okW at ho
    have e : ((xs.drop K).filter (goodB p 0)) = [] := List.eq_nil_of_length_eq_zero (by simp at ho; simpa using ho)
    unfold drX r1X numsW
    rw [h2', e]; rfl
  · obtain ⟨_, h2, _⟩ := dr_yes (m := 0) h' ho
    have h2' : drL p 0 1 K xs = _ := h2
    unfold drX r1X
    rw [h2']
theorem left_off {p k : Int} {xs : List Int} (h : rightB p = false) : leftN p k xs = 0 := by
  unfold leftN
  split
  · have : ((xs.drop k.toNat).filter (cntB p)) = [] := by
      rw [List.filter_eq_nil_iff]
      intro x _
      unfold cntB; rw [h]; simp
    rw [this]; rfl
  · rfl
theorem may_off {p n k : Int} {xs : List Int} (h : tapeB k xs = false ∨ rightB p = false) : dMay p n k xs = false := by
  unfold dMay
  rcases h with h | h
  · rw [h]; simp
  · rw [h]; rfl
theorem may_n {p n k : Int} {xs : List Int} (h : n < 0 ∨ 8192 < n) : dMay p n k xs = false := by
  unfold dMay
  have : (decide (0 ≤ n) && decide (n ≤ 8192)) = false := by simp; omega
  rw [this]; simp
/-- what is told where nothing may be drawn -/
theorem told_off {p m n k : Int} {xs : List Int} (h : dMay p n k xs = false) : drL p m n k xs = [] ∧ drK p m n k xs = k ∧ drE p m n k xs = 1 :=
  ⟨(dr_no m h).2.1, (dr_no m h).2.2, (dr_no m h).1⟩
theorem drX_off {p k : Int} {xs : List Int} (h : dMay p 1 k xs = false) : drX p k xs = 0 := by unfold drX; rw [(dr_no 0 h).2.1]; rfl
end Go.Proofs.Ytcganfmlfoebpaa
