/- A claim's numbers, and the claim of numbers (in plain Lean; nothing of a program). -/
import Derived.Test.YtnfnommiabalfaaBun14
import Derived.Test.YtnfnommiabalfaaBun06
import Derived.Test.YtnfnommiabalfaaBun16
namespace Go.Proofs.Ytnfnommiabalfaa
open Go.RowKit Go.Maps
variable {m n r : Nat}

/-- a claim's numbers, one behind the other -/
def numsL (R K : List Int) (C U : List (List Int)) : List Int := (R.length : Int) :: (R.map IntKind.u64.wrap ++ (K.map IntKind.u64.wrap ++ (C.flatten ++ U.flatten)))
/-- how many rows numbers tell -/
def ofN (l : List Int) : Nat := (l.getD 0 0).toNat
/-- are there just as many numbers as a claim has? -/
def ofB (rows cols : Int) (l : List Int) : Bool := sideB rows && (sideB cols && decide (0 < l.length ∧ l.getD 0 0 ≤ 64 ∧ (l.length : Int) = 1 + (ofN l : Int) * (2 + rows + cols)))
def ofR (l : List Int) : List Int := ((l.drop 1).take (ofN l)).map IntKind.i64.wrap
def ofK (l : List Int) : List Int := ((l.drop (1 + ofN l)).take (ofN l)).map IntKind.i64.wrap
def ofC (m : Nat) (l : List Int) : List (List Int) := (List.range m).map fun i => (l.drop (1 + 2 * ofN l + i * ofN l)).take (ofN l)
def ofU (m n : Nat) (l : List Int) : List (List Int) := (List.range (ofN l)).map fun k => (l.drop (1 + 2 * ofN l + m * ofN l + k * n)).take n
theorem ofB_iff {rows cols : Int} {l : List Int} (hu : U64s l) : ofB rows cols l = true ↔ ∃ m n : Nat, rows = m ∧ cols = n ∧ (1 ≤ m ∧ m ≤ 64) ∧ (1 ≤ n ∧ n ≤ 64) ∧ l.getD 0 0 = (ofN l : Int) ∧ ofN l ≤ 64 ∧ l.length = 1 + ofN l * (2 + m + n) := by
  unfold ofB sideB
  rw [Bool.and_eq_true, Bool.and_eq_true, decide_eq_true_iff, decide_eq_true_iff, decide_eq_true_iff]
  constructor
  · rintro ⟨h1, h2, h3, h4, h5⟩
    have h0 : 0 ≤ l.getD 0 0 := by
      have := hu _ (getD_mem (0 : Int) h3)
      exact this.1
    have e : l.getD 0 0 = (ofN l : Int) := by unfold ofN; omega
    refine ⟨rows.toNat, cols.toNat, by omega, by omega, by omega, by omega, e, by omega, ?_⟩
    have : ((l.length : Nat) : Int) = ((1 + ofN l * (2 + rows.toNat + cols.toNat) : Nat) : Int) := by
      rw [h5]
      push_cast
      rw [Int.toNat_of_nonneg (by omega), Int.toNat_of_nonneg (by omega)]
    exact_mod_cast this
  · rintro ⟨m, n, rfl, rfl, hm, hn, e, h4, h5⟩
    refine ⟨by omega, by omega, by omega, by omega, ?_⟩
    rw [h5]
    push_cast
    rfl
theorem flat_pieces (l : List Int) (a r : Nat) : ∀ m, ((List.range m).map fun i => (l.drop (a + i * r)).take r).flatten = (l.drop a).take (m * r)
  | 0 => by simp
  | m + 1 => by
    rw [List.range_succ, List.map_append, List.flatten_append, flat_pieces l a r m]
    simp only [List.map_cons, List.map_nil, List.flatten_cons, List.flatten_nil, List.append_nil]
    rw [Nat.succ_mul, List.take_add, List.drop_drop]
theorem wrap_back {x : Int} (h : 0 ≤ x ∧ x ≤ 18446744073709551615) : IntKind.u64.wrap (IntKind.i64.wrap x) = x := by
  rw [u64_wrap, IntKind.wrap_i64]
  omega
/-- what numbers tell has just these numbers -/
theorem nums_of {l : List Int} (hu : U64s l) (h0 : l.getD 0 0 = (ofN l : Int)) (h : l.length = 1 + ofN l * (2 + m + n)) : numsL (ofR l) (ofK l) (ofC m l) (ofU m n l) = l := by
  obtain ⟨r, er⟩ : ∃ r, ofN l = r := ⟨_, rfl⟩
  unfold numsL ofR ofK ofC ofU
  rw [er] at h h0 ⊢
  have hlen : r ≤ (l.drop 1).length := by
    rw [List.length_drop, h, Nat.mul_add, Nat.mul_add]; omega
  have hb : ∀ a, ((((l.drop a).take r).map IntKind.i64.wrap).map IntKind.u64.wrap) = (l.drop a).take r := fun a => by
    rw [List.map_map]
    refine (List.map_congr_left fun x hx => ?_).trans (List.map_id _)
    exact wrap_back (hu x (List.mem_of_mem_drop (List.mem_of_mem_take hx)))
  rw [hb, hb, flat_pieces, flat_pieces]
  have e1 : ((((l.drop 1).take r).map IntKind.i64.wrap).length : Int) = (r : Int) := by rw [List.length_map, List.length_take]; omega
  rw [e1]
  have e2 : (l.drop (1 + 2 * r + m * r)).take (r * n) = l.drop (1 + 2 * r + m * r) := List.take_of_length_le (by
    rw [List.length_drop, h, Nat.mul_add, Nat.mul_add, Nat.mul_comm r m, Nat.mul_comm r 2]; omega)
  rw [e2]
  have e3 : (l.drop (1 + 2 * r)).take (m * r) ++ l.drop (1 + 2 * r + m * r) = l.drop (1 + 2 * r) := by
    rw [show l.drop (1 + 2 * r + m * r) = (l.drop (1 + 2 * r)).drop (m * r) from List.drop_drop.symm]; exact List.take_append_drop _ _
  rw [e3]
  have e4 : (l.drop (1 + r)).take r ++ l.drop (1 + 2 * r) = l.drop (1 + r) := by
    rw [show l.drop (1 + 2 * r) = (l.drop (1 + r)).drop r by rw [List.drop_drop]; congr 1; omega]; exact List.take_append_drop _ _
  rw [e4]
  have e5 : (l.drop 1).take r ++ l.drop (1 + r) = l.drop 1 := by
    rw [← List.drop_drop]; exact List.take_append_drop _ _
  rw [e5]
  cases l with
  | nil => simp at h; omega
  | cons x t =>
    have : x = (r : Int) := h0
    rw [this]
    rfl
theorem wrap_fore {x : Int} (h : 0 ≤ x ∧ x ≤ 9223372036854775807) : IntKind.i64.wrap (IntKind.u64.wrap x) = x := by
  rw [u64_wrap, IntKind.wrap_i64]
  omega
/-- a claim's numbers tell it -/
theorem of_nums {R K : List Int} {C U : List (List Int)} (hR : R.length = U.length) (hK : K.length = U.length) (hC : C.length = m) (hc : ∀ l ∈ C, l.length = U.length) (hu : ∀ l ∈ U, l.length = n)
    (h1 : ∀ x ∈ R, 0 ≤ x ∧ x ≤ 9223372036854775807) (h2 : ∀ x ∈ K, 0 ≤ x ∧ x ≤ 9223372036854775807) :
    (numsL R K C U).length = 1 + U.length * (2 + m + n) ∧ ofN (numsL R K C U) = U.length ∧ ofR (numsL R K C U) = R ∧ ofK (numsL R K C U) = K ∧ ofC m (numsL R K C U) = C ∧ ofU m n (numsL R K C U) = U := by
  obtain ⟨r, er⟩ : ∃ r, U.length = r := ⟨_, rfl⟩
  rw [er] at hR hK hc ⊢
  have hCl := flat_len hc
  have hUl := flat_len hu
  rw [hC] at hCl; rw [er] at hUl
  have eN : ofN (numsL R K C U) = r := by unfold ofN numsL; rw [hR]; simp
  have hb : ∀ l : List Int, (∀ x ∈ l, 0 ≤ x ∧ x ≤ 9223372036854775807) → (l.map IntKind.u64.wrap).map IntKind.i64.wrap = l := fun l hl => by
    rw [List.map_map]
    exact (List.map_congr_left fun x hx => wrap_fore (hl x hx)).trans (List.map_id _)
  have d1 : (numsL R K C U).drop 1 = R.map IntKind.u64.wrap ++ (K.map IntKind.u64.wrap ++ (C.flatten ++ U.flatten)) := rfl
  have d2 : (numsL R K C U).drop (1 + r) = K.map IntKind.u64.wrap ++ (C.flatten ++ U.flatten) := by
    rw [← List.drop_drop, d1]
    exact List.drop_left' (by rw [List.length_map, hR])
  have d3 : (numsL R K C U).drop (1 + 2 * r) = C.flatten ++ U.flatten := by
    rw [show 1 + 2 * r = (1 + r) + r by omega, ← List.drop_drop, d2]
    exact List.drop_left' (by rw [List.length_map, hK])
  have d4 : (numsL R K C U).drop (1 + 2 * r + m * r) = U.flatten := by
    rw [← List.drop_drop, d3]
    exact List.drop_left' hCl
  refine ⟨?_, eN, ?_, ?_, ?_, ?_⟩
  · unfold numsL
    simp only [List.length_cons, List.length_append, List.length_map, hR, hK, hCl, hUl]
    rw [Nat.mul_add, Nat.mul_add, Nat.mul_comm r m]; omega
  · unfold ofR
    rw [eN, d1, List.take_left' (by rw [List.length_map, hR]), hb R h1]
  · unfold ofK
    rw [eN, d2, List.take_left' (by rw [List.length_map, hK]), hb K h2]
  · unfold ofC
    rw [eN]
    refine rows_ext (by simp [hC]) fun i hi => ?_
    have hi' : i < m := by simpa using hi
    have e : ((List.range m).map fun i => ((numsL R K C U).drop (1 + 2 * r + i * r)).take r).getD i [] = ((numsL R K C U).drop (1 + 2 * r + i * r)).take r := by simp [List.getD, hi']
    rw [e, ← List.drop_drop, d3]
    have hlen : i * r + r ≤ m * r := by rw [← Nat.succ_mul]; exact Nat.mul_le_mul_right _ hi'
    refine list_ext (by rw [hc _ (getD_mem [] (by omega)), List.length_take, List.length_drop, List.length_append, hCl]; omega) fun j hj => ?_
    have hj' : j < r := by rw [List.length_take] at hj; omega
    rw [sub_get _ _ _ _ hj', getD_apps, if_pos (by rw [hCl]; omega), flat_get hc (by omega) hj']
  · unfold ofU
    rw [eN]
    refine rows_ext (by simp [er]) fun i hi => ?_
    have hi' : i < r := by simpa using hi
    have e : ((List.range r).map fun k => ((numsL R K C U).drop (1 + 2 * r + m * r + k * n)).take n).getD i [] = ((numsL R K C U).drop (1 + 2 * r + m * r + i * n)).take n := by simp [List.getD, hi']
    rw [e, ← List.drop_drop, d4]
    have hlen : i * n + n ≤ r * n := by rw [← Nat.succ_mul]; exact Nat.mul_le_mul_right _ hi'
    refine list_ext (by rw [hu _ (getD_mem [] (by omega)), List.length_take, List.length_drop, hUl]; omega) fun j hj => ?_
    have hj' : j < n := by rw [List.length_take] at hj; omega
    rw [sub_get _ _ _ _ hj', flat_get hu (by omega) hj']
end Go.Proofs.Ytnfnommiabalfaa
