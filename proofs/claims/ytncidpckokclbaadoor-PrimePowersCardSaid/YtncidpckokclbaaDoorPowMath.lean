/- Build's list of a prime below 3000, by computing. -/
import Derived.Test.YtncidpckokclbaaDoorAwake02
import Derived.Test.YtncidpckokclbaaDoorPrattList
import Derived.Test.YtncidpckokclbaaDoorPartsMath
namespace Go.Proofs.YtncidpckokclbaaDoor
open Go.RowKit Go.Maps

def powC (n a t : Nat) : Nat := if 2 ≤ n ∧ a < n then a ^ t % n else 0
theorem powv_C (n a t : Nat) (hn : n ≤ 9223372036854775807) : powv n a t = (powC n a t : Int) := by
  unfold powv powC
  by_cases h : 2 ≤ n ∧ a < n
  · rw [if_pos (hasB_iff.2 ⟨⟨by omega, by omega⟩, by omega⟩), if_pos h, mpow_nat]
  · rw [if_neg (fun hh => h (by have := hasB_iff.1 hh; omega)), if_neg h]; rfl
def rootC (n r : Nat) (ps : List (Int × Int)) : Bool := Nat.beq (powC n r (n - 1)) 1 && ps.all fun q => !Nat.beq (powC n r ((n - 1) / q.1.toNat)) 1
theorem rootB_C (n r : Nat) (ps : List (Int × Int)) (hn : 1 ≤ n) (hn2 : n ≤ 9223372036854775807) (hp : ∀ q ∈ ps, 0 ≤ q.1) : rootB n r ps = rootC n r ps := by
  have e1 : (n : Int) - 1 = ((n - 1 : Nat) : Int) := by omega
  have h1 : decide (powv n r ((n : Int) - 1) = 1) = Nat.beq (powC n r (n - 1)) 1 := by
    rw [e1, powv_C _ _ _ hn2, Bool.eq_iff_iff, decide_eq_true_eq, Nat.beq_eq]; omega
  unfold rootB rootC
  rw [h1]
  congr 1
  rw [Bool.eq_iff_iff, List.all_eq_true, List.all_eq_true]
  have h2 : ∀ q ∈ ps, decide (powv n r (((n : Int) - 1) / q.1) ≠ 1) = !Nat.beq (powC n r ((n - 1) / q.1.toNat)) 1 := by
    intro q hq
    obtain ⟨Q, hQ⟩ : ∃ Q : Nat, q.1 = Q := ⟨q.1.toNat, by have := hp q hq; omega⟩
    rw [hQ, Int.toNat_natCast, e1, ← Int.natCast_ediv, powv_C _ _ _ hn2, Bool.eq_iff_iff, decide_eq_true_eq, Bool.not_eq_true', ← Bool.not_eq_true, Nat.beq_eq]; omega
  constructor
  · intro h q hq; rw [← h2 q hq]; exact h q hq
  · intro h q hq; rw [h2 q hq]; exact h q hq
def stLoopC (n : Nat) : Nat → Nat → Bool
  | 0, _ => false
  | t + 1, x => Nat.beq x (n - 1) || stLoopC n t (powC n x 2)
theorem stLoop_C (n : Nat) (hn : 1 ≤ n) (hn2 : n ≤ 9223372036854775807) : ∀ (t x : Nat), stLoop n t x = stLoopC n t x
  | 0, x => rfl
  | t + 1, x => by
    rw [stLoop, stLoopC, show ((2 : Int)) = ((2 : Nat) : Int) from rfl, powv_C _ _ _ hn2, stLoop_C n hn hn2 t]
    by_cases h : x = n - 1
    · rw [if_pos (by omega), show Nat.beq x (n - 1) = true by rw [Nat.beq_eq]; exact h, Bool.true_or]
    · rw [if_neg (by omega), show Nat.beq x (n - 1) = false by rw [← Bool.not_eq_true, Nat.beq_eq]; exact h, Bool.false_or]
def standsC (n b : Nat) : Bool := Nat.beq (powC n (b % n) ((n - 1) / 2 ^ Lib.ctz 64 (n - 1))) 1 || stLoopC n (Lib.ctz 64 (n - 1)) (powC n (b % n) ((n - 1) / 2 ^ Lib.ctz 64 (n - 1)))
theorem standsB_C (n b : Nat) (hn : 1 ≤ n) (hn2 : n ≤ 9223372036854775807) : standsB n b = standsC n b := by
  unfold standsB standsC
  have e1 : (n : Int) - 1 = ((n - 1 : Nat) : Int) := by omega
  have e2 : ((n - 1 : Nat) : Int) / 2 ^ Lib.ctz 64 (n - 1) = (((n - 1) / 2 ^ Lib.ctz 64 (n - 1) : Nat) : Int) := by
    rw [Int.natCast_ediv]; congr 1
  rw [e1, Int.toNat_natCast, e2, ← Int.natCast_emod, powv_C _ _ _ hn2, stLoop_C n hn hn2]
  congr 1
  rw [Bool.eq_iff_iff, decide_eq_true_eq, Nat.beq_eq]; omega
def primeCL (n : Nat) : List Nat → Bool
  | [] => true
  | b :: bs => if Nat.beq (n % b) 0 then Nat.beq n b else standsC n b && primeCL n bs
theorem primeL_C (n : Nat) (hn : 1 ≤ n) (hn2 : n ≤ 9223372036854775807) : ∀ bs : List Nat, primeL n (bs.map fun b : Nat => (b : Int)) = primeCL n bs
  | [] => rfl
  | b :: bs => by
    rw [List.map_cons, primeL, primeCL, primeL_C n hn hn2 bs, standsB_C n b hn hn2]
    by_cases h : n % b = 0
    · rw [if_pos (by omega), if_pos (by rw [Nat.beq_eq]; exact h), Bool.eq_iff_iff, decide_eq_true_eq, Nat.beq_eq]; omega
    · rw [if_neg (by omega), show Nat.beq (n % b) 0 = false by rw [← Bool.not_eq_true, Nat.beq_eq]; exact h, if_neg Bool.false_ne_true]
      cases standsC n b <;> simp
def primeC (n : Nat) : Bool := primeCL n [2, 3, 5, 7, 11, 13, 17, 19, 23, 29, 31, 37]
theorem primeB_C (n : Nat) (hn : 1 ≤ n) (hn2 : n ≤ 9223372036854775807) : primeB n = primeC n := by
  rw [primeB, primeC, ← primeL_C n hn hn2]; rfl

def findR (n : Nat) (ps : List (Int × Int)) : Nat → Nat → Nat
  | 0, j => j
  | f + 1, j => if rootC n j ps then j else findR n ps f (j + 1)
theorem findR_le (n : Nat) (ps : List (Int × Int)) : ∀ f j, j ≤ findR n ps f j ∧ findR n ps f j ≤ j + f
  | 0, j => by simp [findR]
  | f + 1, j => by
    rw [findR]
    split
    · omega
    · have := findR_le n ps f (j + 1); omega
theorem findR_least (n : Nat) (ps : List (Int × Int)) : ∀ f j i, j ≤ i → i < findR n ps f j → rootC n i ps = false
  | 0, j, i, h1, h2 => by simp [findR] at h2; omega
  | f + 1, j, i, h1, h2 => by
    rw [findR] at h2
    split at h2
    · omega
    · by_cases e : i = j
      · rw [e]; simpa using ‹¬rootC n j ps = true›
      · exact findR_least n ps f (j + 1) i (by omega) h2
def genN (n : Nat) : Nat := findR n (partsOf n) 100 1
def genZ (n : Int) : Int := genN n.toNat
def domC : Nat → Nat → List Int
  | 0, _ => []
  | f + 1, p => (p : Int) :: (partsOf p).flatMap fun q => if Nat.beq q.1.toNat 2 then [] else domC f q.1.toNat
def goodN (n : Int) : Bool := decide (3 ≤ n) && decide (n < 3000) && primeC n.toNat && decide ((partsD (n - 1)).2 = 0) && decide ((partsOf n).length ≤ 20) && rootC n.toNat (genN n.toNat) (partsOf n) && upB 1 (partsOf n) (n - 1) && decide (genN n.toNat < n.toNat)
def goodC (p : Nat) : Bool := (domC 12 p).all goodN && decide ((domC 12 p).length ≤ 12) && ((domC 12 p).all fun n => decide (n ≤ p)) && (domC 12 p).all fun n => (partsOf n).all fun q => decide (q.1 = 2 ∨ q.1 ∈ domC 12 p)
def checkP (p : Nat) : Bool := decide (p < 3) || !primeC p || goodC p
def range_all (f : Nat → Bool) : Nat → Nat → Bool
  | 0, _ => true
  | n + 1, k => f k && range_all f n (k + 1)
theorem range_all_spec {f : Nat → Bool} : ∀ {n k : Nat}, range_all f n k = true → ∀ j, k ≤ j → j < k + n → f j = true
  | 0, k, _, j, h1, h2 => by omega
  | n + 1, k, h, j, h1, h2 => by
    rw [range_all, Bool.and_eq_true] at h
    by_cases e : j = k
    · rw [e]; exact h.1
    · exact range_all_spec h.2 j (by omega) (by omega)
set_option maxRecDepth 100000
theorem check_a : range_all checkP 500 0 = true := by decide +kernel
theorem check_b : range_all checkP 500 500 = true := by decide +kernel
theorem check_c : range_all checkP 500 1000 = true := by decide +kernel
theorem check_d : range_all checkP 500 1500 = true := by decide +kernel
theorem check_e : range_all checkP 500 2000 = true := by decide +kernel
theorem check_f : range_all checkP 500 2500 = true := by decide +kernel
theorem check_all (p : Nat) (hp : p < 3000) : checkP p = true := by
  rcases (by omega : p < 500 ∨ (500 ≤ p ∧ p < 1000) ∨ (1000 ≤ p ∧ p < 1500) ∨ (1500 ≤ p ∧ p < 2000) ∨ (2000 ≤ p ∧ p < 2500) ∨ (2500 ≤ p ∧ p < 3000)) with h | h | h | h | h | h
  · exact range_all_spec check_a p (by omega) (by omega)
  · exact range_all_spec check_b p (by omega) (by omega)
  · exact range_all_spec check_c p (by omega) (by omega)
  · exact range_all_spec check_d p (by omega) (by omega)
  · exact range_all_spec check_e p (by omega) (by omega)
  · exact range_all_spec check_f p (by omega) (by omega)
theorem goodN_nat {n : Int} (h : goodN n = true) : ∃ N : Nat, n = N ∧ 3 ≤ N ∧ N < 3000 ∧ primeC N = true ∧ (partsD (n - 1)).2 = 0 ∧ (partsOf n).length ≤ 20 ∧ rootC N (genN N) (partsOf n) = true ∧ upB 1 (partsOf n) (n - 1) = true ∧ genN N < N := by
  simp only [goodN, Bool.and_eq_true, decide_eq_true_eq] at h
  obtain ⟨⟨⟨⟨⟨⟨⟨h1, h2⟩, h3⟩, h4⟩, h5⟩, h6⟩, h7⟩, h8⟩ := h
  exact ⟨n.toNat, by omega, by omega, by omega, h3, h4, h5, h6, h7, h8⟩
theorem partsOf_pos (n : Int) : ∀ q ∈ partsOf n, 0 ≤ q.1 := fun q hq => by have := partsD_ok (n - 1) q hq; omega
/-- what is computed is what Build wants -/
theorem good_dom {p : Nat} (h : goodC p = true) : Good (domC 12 p) genZ := by
  simp only [goodC, Bool.and_eq_true, List.all_eq_true, decide_eq_true_eq] at h
  obtain ⟨⟨⟨h1, h2⟩, h3⟩, h4⟩ := h
  refine ⟨fun n hn => ?_, fun n hn => ?_, fun n hn => ?_, fun n hn => ?_, fun n hn => ?_, fun n hn => ?_, fun n hn j hj1 hj2 => ?_, fun n hn q hq => h4 n hn q hq⟩
  all_goals obtain ⟨N, rfl, a1, a2, a3, a4, a5, a6, a7, a8⟩ := goodN_nat (h1 n hn)
  · omega
  · rw [primeB_C N (by omega) (by omega)]; exact a3
  · exact a4
  · omega
  · have := findR_le N (partsOf N) 100 1
    simp only [genZ, Int.toNat_natCast, genN]
    omega
  · have e : genZ (N : Int) = (genN N : Nat) := by simp [genZ]
    rw [e, rootB_C N _ _ (by omega) (by omega) (partsOf_pos _)]; exact a6
  · have e : genZ (N : Int) = (genN N : Nat) := by simp [genZ]
    rw [e] at hj2
    obtain ⟨J, rfl⟩ : ∃ J : Nat, j = J := ⟨j.toNat, by omega⟩
    rw [rootB_C N _ _ (by omega) (by omega) (partsOf_pos _)]
    exact findR_least N (partsOf N) 100 1 J (by omega) (by unfold genN at hj2; omega)
theorem isP_prm {n : Int} (h : IsP n) : Prm n.natAbs := by
  have h2 := h.1
  refine ⟨by omega, fun d hd => ?_⟩
  apply Classical.byContradiction
  intro hc
  have hle := Nat.le_of_dvd (by omega) hd
  have h0 : d ≠ 0 := by rintro rfl; have := Nat.eq_zero_of_zero_dvd hd; omega
  obtain ⟨e, he⟩ := hd
  have he0 : e ≠ 0 := by rintro rfl; simp at he; omega
  have he1 : e ≠ 1 := by rintro rfl; simp at he; omega
  have hd1 : 2 ≤ d := by omega
  have hen : (n : Int) = (d : Int) * (e : Int) := by rw [← Int.natCast_mul, ← he]; omega
  rcases Nat.le_total d e with hde | hde
  · refine h.2 d (by omega) ?_ (by rw [hen]; exact Int.mul_emod_right _ _)
    rw [hen]; exact Int.mul_le_mul_of_nonneg_left (by omega) (by omega)
  · refine h.2 e (by omega) ?_ (by rw [hen]; exact Int.mul_emod_left _ _)
    rw [hen]; exact Int.mul_le_mul_of_nonneg_right (by omega) (by omega)
/-- the root that is told is one -/
theorem good_root {p : Nat} (h : goodN p = true) : 1 ≤ genN p ∧ genN p < p ∧ Root p (genN p) := by
  obtain ⟨N, e, a1, a2, a3, a4, a5, a6, a7, a8⟩ := goodN_nat h
  obtain rfl : p = N := by omega
  have hle := findR_le p (partsOf p) 100 1
  have hg1 : 1 ≤ genN p := by unfold genN; omega
  refine ⟨hg1, a8, ?_⟩
  have hpf := (partsD_full a4).2.2.2.2
  have hr := rootB_C p (genN p) (partsOf p) (by omega) (by omega) (partsOf_pos _)
  rw [a6] at hr
  simp only [rootB, Bool.and_eq_true, decide_eq_true_eq, List.all_eq_true] at hr
  obtain ⟨hr1, hr2⟩ := hr
  have hh : hasB (p : Int) [(genN p : Int)] = true := hasB_iff.2 ⟨⟨by omega, by omega⟩, by omega⟩
  have e1 : (p : Int) - 1 = ((p - 1 : Nat) : Int) := by omega
  rw [powv, if_pos hh, e1, mpow_nat] at hr1
  refine root_of (by omega) (by omega) fun q hq hd hone => ?_
  obtain ⟨x, hx, hx2⟩ := upB_part hq a7 (by rw [e1]; exact Int.ofNat_dvd_left.2 (by simpa using hd))
  have hqx := prm_eq (isP_prm (hpf x hx)) hq hx2
  have hpos := partsOf_pos _ x hx
  have ex : x.1 = (q : Int) := by omega
  have := hr2 x hx
  rw [powv, if_pos hh, e1, ex, ← Int.natCast_ediv, mpow_nat, hone] at this
  exact this rfl
theorem dom_head (f p : Nat) : (p : Int) ∈ domC (f + 1) p := by simp [domC]
end Go.Proofs.YtncidpckokclbaaDoor
