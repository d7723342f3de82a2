/- Numbers that are drawn: which words count, how many there are, how far a tape is read. -/
import Derived.Test.YtcganfmlfoebpaaField
namespace Go.Proofs.Ytcganfmlfoebpaa

/-- does a word count? -/
def cntB (p x : Int) : Bool := rightB p && decide (x ≤ 18446744073709551615 - 18446744073709551616 % p)
/-- does it count, and is its number at least m? -/
def goodB (p m x : Int) : Bool := cntB p x && decide (m ≤ x % p)
theorem good0 {p x : Int} (h : 2 ≤ p) : goodB p 0 x = cntB p x := by
  unfold goodB
  rw [decide_eq_true (Int.emod_nonneg x (by omega)), Bool.and_true]
/-- how many words are read till n good ones are there, or to the end -/
def used (g : Int → Bool) : Nat → List Int → Nat
  | 0, _ => 0
  | _ + 1, [] => 0
  | n + 1, x :: ws => if g x then used g n ws + 1 else used g (n + 1) ws + 1
def numsW (g : Int → Bool) (n : Nat) (ws : List Int) : List Int := (ws.filter g).take n
def okW (g : Int → Bool) (n : Nat) (ws : List Int) : Bool := decide (n ≤ (ws.filter g).length)
section
variable {g : Int → Bool}
theorem used_zero (ws : List Int) : used g 0 ws = 0 := by cases ws <;> rfl
theorem used_nil (n : Nat) : used g n [] = 0 := by cases n <;> rfl
theorem used_yes {x : Int} (h : g x = true) (n : Nat) (ws : List Int) : used g (n + 1) (x :: ws) = used g n ws + 1 := by simp [used, h]
theorem used_no {x : Int} (h : g x = false) (n : Nat) (ws : List Int) : used g (n + 1) (x :: ws) = used g (n + 1) ws + 1 := by simp [used, h]
theorem used_le : ∀ (ws : List Int) (n : Nat), used g n ws ≤ ws.length
  | [], n => by rw [used_nil]; exact Nat.zero_le _
  | x :: ws, 0 => by rw [used_zero]; exact Nat.zero_le _
  | x :: ws, n + 1 => by
    cases h : g x
    · rw [used_no h]; have := used_le ws (n + 1); simp only [List.length_cons]; omega
    · rw [used_yes h]; have := used_le ws n; simp only [List.length_cons]; omega
theorem used_end : ∀ (ws : List Int) (n : Nat), (ws.filter g).length < n → used g n ws = ws.length
  | [], n, _ => by rw [used_nil]; rfl
  | x :: ws, 0, h => absurd h (Nat.not_lt_zero _)
  | x :: ws, n + 1, h => by
    cases e : g x
    · rw [used_no e, used_end ws (n + 1) (by simpa [List.filter_cons, e] using h)]; rfl
    · rw [used_yes e, used_end ws n (by simpa [List.filter_cons, e] using h)]; rfl
theorem used_drop : ∀ (ws : List Int) (n : Nat), (ws.drop (used g n ws)).filter g = (ws.filter g).drop n
  | [], n => by simp
  | x :: ws, 0 => by rw [used_zero]; rfl
  | x :: ws, n + 1 => by
    cases e : g x
    · rw [used_no e, List.drop_succ_cons, used_drop ws (n + 1), List.filter_cons_of_neg (by simp [e])]
    · rw [used_yes e, List.drop_succ_cons, used_drop ws n, List.filter_cons_of_pos e, List.drop_succ_cons]
theorem used_add : ∀ (ws : List Int) (n m : Nat), used g (n + m) ws = used g n ws + used g m (ws.drop (used g n ws))
  | [], n, m => by simp [used_nil]
  | x :: ws, 0, m => by rw [used_zero, Nat.zero_add, Nat.zero_add]; rfl
  | x :: ws, n + 1, m => by
    rw [Nat.add_right_comm]
    cases e : g x
    · rw [used_no e, used_no e, List.drop_succ_cons, Nat.add_right_comm n m 1, used_add ws (n + 1) m]; omega
    · rw [used_yes e, used_yes e, List.drop_succ_cons, used_add ws n m]; omega
theorem used_app : ∀ (ws vs : List Int) (n : Nat), n ≤ (ws.filter g).length → used g n (ws ++ vs) = used g n ws
  | _, _, 0, _ => by rw [used_zero, used_zero]
  | [], vs, n + 1, h => by simp at h
  | x :: ws, vs, n + 1, h => by
    rw [List.cons_append]
    cases e : g x
    · rw [used_no e, used_no e, used_app ws vs (n + 1) (by simpa [List.filter_cons, e] using h)]
    · rw [used_yes e, used_yes e, used_app ws vs n (by simpa [List.filter_cons, e] using h)]
theorem nums_app (ws vs : List Int) (n : Nat) (h : n ≤ (ws.filter g).length) : numsW g n (ws ++ vs) = numsW g n ws := by
  unfold numsW
  rw [List.filter_append, List.take_append_of_le_length h]
theorem nums_yes {x : Int} (h : g x = true) (n : Nat) (ws : List Int) : numsW g (n + 1) (x :: ws) = x :: numsW g n ws := by simp [numsW, h]
theorem nums_no {x : Int} (h : g x = false) (n : Nat) (ws : List Int) : numsW g n (x :: ws) = numsW g n ws := by simp [numsW, h]
theorem ok_yes {x : Int} (h : g x = true) (n : Nat) (ws : List Int) : okW g (n + 1) (x :: ws) = okW g n ws := by simp [okW, h]
theorem ok_no {x : Int} (h : g x = false) (n : Nat) (ws : List Int) : okW g n (x :: ws) = okW g n ws := by simp [okW, h]
/-- words are slipped in that don't count -/
def slip (y : Int) : List Int → List Int
  | [] => []
  | x :: ws => y :: x :: slip y ws
theorem slip_filter {y : Int} (h : g y = false) : ∀ ws : List Int, (slip y ws).filter g = ws.filter g
  | [] => rfl
  | x :: ws => by
    rw [slip, List.filter_cons_of_neg (by simp [h]), List.filter_cons, List.filter_cons, slip_filter h ws]
theorem slip_snoc (y : Int) : ∀ (ws : List Int) (x : Int), slip y (ws ++ [x]) = slip y ws ++ [y, x]
  | [], x => rfl
  | z :: ws, x => by rw [List.cons_append, slip, slip, slip_snoc y ws x]; rfl
theorem slip_len (y : Int) : ∀ ws : List Int, (slip y ws).length = 2 * ws.length
  | [] => rfl
  | x :: ws => by rw [slip, List.length_cons, List.length_cons, slip_len y ws, List.length_cons]; omega

/-- a tape that is read: from k on, n numbers are asked for; now it is at K, and these were taken -/
structure Rd (g : Int → Bool) (xs : List Int) (k n K : Nat) (l : List Int) : Prop where
  le : K ≤ xs.length
  few : l.length ≤ n
  nums : numsW g n (xs.drop k) = l ++ numsW g (n - l.length) (xs.drop K)
  ok : okW g n (xs.drop k) = okW g (n - l.length) (xs.drop K)
  used : k + used g n (xs.drop k) = K + used g (n - l.length) (xs.drop K)
theorem Rd.start {xs : List Int} {k n : Nat} (h : k ≤ xs.length) : Rd g xs k n k [] := ⟨h, Nat.zero_le _, rfl, rfl, rfl⟩
theorem drop_at {xs : List Int} {K : Nat} (h : K < xs.length) : xs.drop K = xs.getD K 0 :: xs.drop (K + 1) := by
  rw [List.drop_eq_getElem_cons h]; simp [List.getD, h]
theorem Rd.bad {xs : List Int} {k n K : Nat} {l : List Int} (r : Rd g xs k n K l) (h : K < xs.length) (hl : l.length < n) (hb : g (xs.getD K 0) = false) : Rd g xs k n (K + 1) l := by
  obtain ⟨m, hm⟩ : ∃ m, n - l.length = m + 1 := ⟨n - l.length - 1, by omega⟩
  have h1 := r.nums; have h2 := r.ok; have h3 := r.used
  rw [drop_at h, hm] at h1 h2 h3
  rw [nums_no hb] at h1; rw [ok_no hb] at h2; rw [used_no hb] at h3
  refine ⟨h, r.few, ?_, ?_, ?_⟩ <;> rw [hm]
  · exact h1
  · exact h2
  · omega
theorem Rd.good {xs : List Int} {k n K : Nat} {l : List Int} (r : Rd g xs k n K l) (h : K < xs.length) (hl : l.length < n) (hb : g (xs.getD K 0) = true) : Rd g xs k n (K + 1) (l ++ [xs.getD K 0]) := by
  obtain ⟨m, hm⟩ : ∃ m, n - l.length = m + 1 := ⟨n - l.length - 1, by omega⟩
  have h1 := r.nums; have h2 := r.ok; have h3 := r.used
  rw [drop_at h, hm] at h1 h2 h3
  rw [nums_yes hb] at h1; rw [ok_yes hb] at h2; rw [used_yes hb] at h3
  have e : n - (l ++ [xs.getD K 0]).length = m := by rw [List.length_append]; simp only [List.length_cons, List.length_nil]; omega
  refine ⟨h, by rw [List.length_append]; simp only [List.length_cons, List.length_nil]; omega, ?_, ?_, ?_⟩ <;> rw [e]
  · rw [h1, List.append_assoc]; rfl
  · exact h2
  · omega
theorem Rd.done {xs : List Int} {k n K : Nat} {l : List Int} (r : Rd g xs k n K l) (hl : l.length = n) : numsW g n (xs.drop k) = l ∧ okW g n (xs.drop k) = true ∧ k + Go.Proofs.Ytcganfmlfoebpaa.used g n (xs.drop k) = K := by
  have h1 := r.nums; have h2 := r.ok; have h3 := r.used
  have e : n - l.length = 0 := by omega
  rw [e] at h1 h2 h3
  rw [used_zero] at h3
  exact ⟨by rw [h1]; simp [numsW], by rw [h2]; simp [okW], h3⟩
theorem Rd.over {xs : List Int} {k n K : Nat} {l : List Int} (r : Rd g xs k n K l) (hl : l.length < n) (hK : K = xs.length) : okW g n (xs.drop k) = false ∧ k + Go.Proofs.Ytcganfmlfoebpaa.used g n (xs.drop k) = xs.length := by
  subst hK
  have h2 := r.ok; have h3 := r.used
  rw [List.drop_length, used_nil] at h3
  rw [List.drop_length] at h2
  exact ⟨by rw [h2]; simp [okW]; omega, h3⟩
end

/-! ### Which words count -/
theorem cnt_first {p x : Int} (hp : 2 ≤ p) (hp1 : p ≤ 9223372036854775807) (h0 : 0 ≤ x) (h1 : x ≤ 18446744073709551615) :
    x ≤ 18446744073709551615 - 18446744073709551616 % p ↔ x - x % p + (p - 1) ≤ 18446744073709551615 := by
  have a1 := Int.emod_nonneg x (show p ≠ 0 by omega)
  have a2 := Int.emod_lt_of_pos x (show 0 < p by omega)
  have b1 := Int.emod_nonneg 18446744073709551616 (show p ≠ 0 by omega)
  have b2 := Int.emod_lt_of_pos 18446744073709551616 (show 0 < p by omega)
  have a3 := Int.ediv_mul_add_emod x p
  have b3 := Int.ediv_mul_add_emod 18446744073709551616 p
  generalize hq : x / p = q at *
  generalize hQ : 18446744073709551616 / p = Q at *
  generalize x % p = r at *
  generalize 18446744073709551616 % p = R at *
  constructor
  · intro h
    have h2 : q * p < Q * p := by omega
    have h3 : q < Q := Int.lt_of_mul_lt_mul_right h2 (by omega)
    have h4 : (q + 1) * p ≤ Q * p := Int.mul_le_mul_of_nonneg_right (by omega) (by omega)
    rw [Int.add_mul, Int.one_mul] at h4
    omega
  · intro h
    have h2 : (q + 1) * p < (Q + 1) * p := by rw [Int.add_mul, Int.one_mul, Int.add_mul, Int.one_mul]; omega
    have h3 : q + 1 < Q + 1 := Int.lt_of_mul_lt_mul_right h2 (by omega)
    have h4 : (q + 1) * p ≤ Q * p := Int.mul_le_mul_of_nonneg_right (by omega) (by omega)
    rw [Int.add_mul, Int.one_mul] at h4
    omega
end Go.Proofs.Ytcganfmlfoebpaa
