/- The document's own answer of layer 3 on being right; what is told of companions. -/
import Derived.Test.YthmmakkldkjnlaaLaw9
import Derived.Test.YthmmakkldkjnlaaBun05
import Derived.Test.YthmmakkldkjnlaaBun14
import Derived.Test.YthmmakkldkjnlaaBun26
namespace Go.Proofs.Ythmmakkldkjnlaa
open Go.RowKit

set_option maxHeartbeats 1000000 in
theorem r3Right (p : Int) (v : Value) (xs : List Int) (w : World) (h0 : 0 ≤ p) (h1 : p ≤ 18446744073709551615) (hv : Ints .u64 w v xs) (hx : U64s xs) :
    Calls Try.prog 13 #[.int .u64 p, v] w fun e w' => e = .returned (.bool (rightPB p xs)) ∧ w = w' := by
  have Hv := hid hv; have Hx := hid hx
  obtain ⟨R, hR⟩ : ∃ R, rightPB p xs = R := ⟨_, rfl⟩
  rw [hR]
  unfold rightPB at hR
  obtain ⟨a, cap, rfl, hc1, hc2, hc⟩ := hv
  have HC := hid hc
  obtain ⟨L, hL⟩ : ∃ L, xs.length = L := ⟨_, rfl⟩
  have HL := hid hL
  rw [hL] at hc1 hR Hv HC ⊢
  clear hc hx
  have hh := rHas p (.slice a L cap) xs w h0 h1 Hv.out Hx.out
  obtain ⟨B, hB⟩ : ∃ B, hasB p xs = B := ⟨_, rfl⟩
  rw [hB] at hR hh
  have Hh := hid hh
  clear hB hh
  by_cases h5 : L ≤ 512
  · rw [decide_eq_true h5, Bool.true_and] at hR
    cases B with
    | false =>
      rw [Bool.false_and] at hR
      subst hR
      clear hL
      go_enter Try.func13, Try.ntmps13
      go_wp2_with (go_at_call 12; refine Hh.out.mono ?_; rintro _ _ ⟨rfl, rfl⟩)
      go_ret
      exact ⟨rfl, rfl⟩
    | true =>
      rw [Bool.true_and] at hR
      by_cases h6 : L = 0
      · rw [decide_eq_true h6, Bool.true_or] at hR
        subst hR
        have b1 : ((L : Int) == 0) = true := by simp [h6]
        clear h6 hL
        go_enter Try.func13, Try.ntmps13
        go_wp2_with (go_at_call 12; refine Hh.out.mono ?_; rintro _ _ ⟨rfl, rfl⟩)
        go_ret
        exact ⟨rfl, rfl⟩
      · rw [decide_eq_false h6, Bool.false_or] at hR
        obtain ⟨b, off, rfl, hb, hcell⟩ := HC.out (by omega)
        have c1 := hcell (L - 1) (by omega)
        have hle : xs.getD (L - 1) 0 = lead xs := by unfold lead; rw [hL]
        rw [hle] at c1
        obtain ⟨x, hx⟩ : ∃ x, lead xs = x := ⟨_, rfl⟩
        rw [hx] at c1 hR
        obtain ⟨l, hl⟩ : ∃ l, L = l + 1 := ⟨L - 1, by omega⟩
        have el : L - 1 = l := by omega
        rw [el] at c1
        have hli : (L : Int) - 1 = (l : Int) := by omega
        have hlL : l < L := by omega
        have b1 : ((L : Int) == 0) = false := by simp; omega
        clear hcell hle hx h6 hL hl el
        have b2 : (x != 0) = R := by rw [← hR]; by_cases e : x = 0 <;> simp [e]
        clear hR
        go_enter Try.func13, Try.ntmps13
        go_wp2_with (go_at_call 12; refine Hh.out.mono ?_; rintro _ _ ⟨rfl, rfl⟩)
        go_ret
        exact ⟨ret_bool (by simp), rfl⟩
  · rw [decide_eq_false h5, Bool.false_and, Bool.false_and] at hR
    subst hR
    clear hL
    go_enter Try.func13, Try.ntmps13
    go_wp2_with fail
    go_ret
    exact ⟨rfl, rfl⟩

/-- what Companion answers -/
def RetCm (k : Int) (l : List Int) (c : Int) (w : World) (e : Ending) (w' : World) : Prop := ∃ v, e = .returned (.tuple #[.agg #[.int .i64 k, .int .i64 k, v], .int .i64 c]) ∧ Ints .u64 w' v l ∧ Ext w w'
theorem cm_any (p : Int) (vf : Value) (f : List Int) (h0 : 0 ≤ p) (h1 : p ≤ 18446744073709551615) (hfx : U64s f) (hl : f.length ≤ 10) : ∃ (CB : Bool) (k : Nat) (l : List Int) (c : Int), (∀ W, Ints .u64 W vf f → Calls Try.prog 10 #[.int .u64 p, vf] W (RetCm k l c W)) ∧
    (CB = false → c = 1 ∧ l = [] ∧ (rightPB p f = false ∨ f.length < 2 ∨ lead f ≠ 1)) ∧
    (CB = true → c = 0 ∧ l = compL p k f ∧ rightPB p f = true ∧ f.length = k + 1 ∧ 1 ≤ k ∧ k ≤ 9 ∧ f.getD k 0 = 1 ∧ Pol p f ∧ rightB p = true) := by
  cases hC : compB p f with
  | false =>
    refine ⟨false, 0, [], 1, fun W hW => (krCompanion_no p vf f W h0 h1 hW hfx (by omega) hC).mono fun e w' ⟨he, hx⟩ => ⟨_, he, Ints.nil, hx⟩, fun _ => ⟨rfl, rfl, ?_⟩, fun h => by cases h⟩
    unfold compB at hC
    simp only [Bool.and_eq_false_iff, decide_eq_false_iff_not] at hC
    rcases hC with h | h | h
    · exact .inr (.inl (by omega))
    · exact .inr (.inr h)
    · exact .inl h
  | true =>
    obtain ⟨n, e1, e2, e3, e4, e5⟩ := compB_of hfx hC
    have hR : rightPB p f = true := (rightPB_iff hfx).2 ⟨e4, e5, by omega⟩
    exact ⟨true, n, compL p n f, 0, fun W hW => (krCompanion p n vf f W e4 hW e5 e1 e2 e3).mono fun e w' ⟨u, he, hi, hx⟩ => ⟨u, he, hi, hx⟩, fun h => (by cases h), fun _ => ⟨rfl, rfl, hR, e1, e2.1, by omega, e3, e5, e4⟩⟩
end Go.Proofs.Ythmmakkldkjnlaa
