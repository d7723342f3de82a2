/- What field.Dot, Div and Norm answer. -/
import Derived.Test.YtcganfmlfoebpaaField
import Derived.Laws.Externs
namespace Go.Proofs.Ytcganfmlfoebpaa
open Go.RowKit

set_option maxHeartbeats 400000 in
theorem norm_yes (p a : Int) (w : World) (hp : rightB p = true) (ha0 : 0 ≤ a) :
    Calls Try.prog 25 #[.int .u64 p, .int .u64 a] w (Ret (.tuple #[.int .u64 (a % p), .int .i64 0]) w) := by
  have hp2 := rightB_true hp
  go_enter Try.func25, Try.ntmps25
  go_wp2_with (go_at_call 21; refine (right_any _ _ (by omega) (by omega)).mono ?_; rintro e w' ⟨rfl, rfl⟩)
  go_ret2
  exact ⟨rfl, (by repeat (first | exact Ext.refl _ | assumption | refine Ext.drew ?_ | refine Ext.drewN ?_ _ | refine Ext.alloc ?_ _ | refine Ext.trans ?_ (by assumption)))⟩
set_option maxHeartbeats 400000 in
theorem norm_no (p a : Int) (w : World) (hp0 : 0 ≤ p) (hp1 : p ≤ 18446744073709551615) (hp : rightB p = false) :
    Calls Try.prog 25 #[.int .u64 p, .int .u64 a] w (Ret (.tuple #[.int .u64 0, .int .i64 1]) w) := by
  go_enter Try.func25, Try.ntmps25
  go_wp2_with (go_at_call 21; refine (right_any _ _ (by omega) (by omega)).mono ?_; rintro e w' ⟨rfl, rfl⟩)
  go_ret2
  exact ⟨rfl, (by repeat (first | exact Ext.refl _ | assumption | refine Ext.drew ?_ | refine Ext.drewN ?_ _ | refine Ext.alloc ?_ _ | refine Ext.trans ?_ (by assumption)))⟩


/-- a step of Dot's two words -/
theorem dot_step {p x y hi lo s : Int} (hp : 2 ≤ p) (hp1 : p ≤ 9223372036854775807) (hx0 : 0 ≤ x) (hx : x < p) (hy0 : 0 ≤ y) (hy : y < p) (hh : hi < p) (hl0 : 0 ≤ lo) (hl : lo ≤ 18446744073709551615)
    (h : (hi * 18446744073709551616 + lo) % p = s % p) :
    0 ≤ x * y / 18446744073709551616 ∧ 0 ≤ x * y % 18446744073709551616 ∧ x * y % 18446744073709551616 ≤ 18446744073709551615 ∧
    0 ≤ (lo + x * y % 18446744073709551616) / 18446744073709551616 ∧ (lo + x * y % 18446744073709551616) / 18446744073709551616 ≤ 1 ∧ 0 ≤ (lo + x * y) % 18446744073709551616 ∧ (lo + x * y) % 18446744073709551616 ≤ 18446744073709551615 ∧
    hi + x * y / 18446744073709551616 + (lo + x * y % 18446744073709551616) / 18446744073709551616 < 2 * p ∧
    (((hi + x * y / 18446744073709551616 + (lo + x * y % 18446744073709551616) / 18446744073709551616) % p) * 18446744073709551616 + (lo + x * y) % 18446744073709551616) % p = (s + x * y) % p := by
  have h1 := Int.mul_nonneg hx0 hy0
  have h2 : x * y ≤ (p - 1) * (p - 1) := Int.mul_le_mul (by omega) (by omega) hy0 (by omega)
  have h3 : (p - 1) * (p - 1) ≤ 9223372036854775806 * (p - 1) := Int.mul_le_mul_of_nonneg_right (by omega) (by omega)
  refine ⟨by omega, by omega, by omega, by omega, by omega, by omega, by omega, by omega, ?_⟩
  rw [← ma_l, mm_l, ma_l]
  have e : (hi + x * y / 18446744073709551616 + (lo + x * y % 18446744073709551616) / 18446744073709551616) * 18446744073709551616 + (lo + x * y) % 18446744073709551616 = (hi * 18446744073709551616 + lo) + x * y := by omega
  rw [e, ← ma_l, h, ma_l]

/-- the sum of the products, place by place -/
def dotZ : List Int → List Int → Int
  | x :: xs, y :: ys => x * y + dotZ xs ys
  | _, _ => 0
theorem dotZ_comm : ∀ xs ys : List Int, dotZ xs ys = dotZ ys xs
  | x :: xs, y :: ys => by rw [dotZ, dotZ, dotZ_comm xs ys, Int.mul_comm]
  | [], [] => rfl
  | [], _ :: _ => rfl
  | _ :: _, [] => rfl
theorem dotZ_cut (k : Nat) : ∀ xs ys : List Int, dotZ (xs.take k) (ys.take k) + dotZ (xs.drop k) (ys.drop k) = dotZ xs ys := by
  induction k with
  | zero => intro xs ys; simp [dotZ]
  | succ k ih =>
    intro xs ys
    match xs, ys with
    | [], ys => simp [dotZ]
    | x :: xs, [] => simp [dotZ]
    | x :: xs, y :: ys =>
      have := ih xs ys
      simp only [List.take_succ_cons, List.drop_succ_cons, dotZ]; omega
theorem dotZ_zero : ∀ (xs : List Int) (n : Nat), dotZ xs (List.replicate n 0) = 0
  | [], n => by cases n <;> simp [dotZ]
  | x :: xs, 0 => by simp [dotZ]
  | x :: xs, n + 1 => by rw [List.replicate_succ, dotZ, dotZ_zero xs n]; simp
theorem dotZ_snoc : ∀ (xs ys : List Int) (x y : Int), xs.length = ys.length → dotZ (xs ++ [x]) (ys ++ [y]) = dotZ xs ys + x * y
  | [], [], x, y, _ => by simp [dotZ]
  | a :: xs, b :: ys, x, y, h => by
    have := dotZ_snoc xs ys x y (by simpa using h)
    simp only [List.cons_append, dotZ, this]; omega
theorem take_snoc (xs : List Int) (k : Nat) (h : k < xs.length) : xs.take (k + 1) = xs.take k ++ [xs.getD k 0] := by
  rw [List.take_succ_eq_append_getElem h]; simp [List.getD, List.getElem?_eq_getElem h]
theorem dotZ_take (xs ys : List Int) (k : Nat) (h : k < xs.length) (h' : k < ys.length) : dotZ (xs.take (k + 1)) (ys.take (k + 1)) = dotZ (xs.take k) (ys.take k) + xs.getD k 0 * ys.getD k 0 := by
  rw [take_snoc xs k h, take_snoc ys k h', dotZ_snoc _ _ _ _ (by simp; omega)]
theorem get_lt {p : Int} {xs : List Int} (h : ∀ x ∈ xs, x < p) {k : Nat} (hk : k < xs.length) : xs.getD k 0 < p := by
  have e : xs.getD k 0 = xs[k] := by simp [List.getD, List.getElem?_eq_getElem hk]
  rw [e]; exact h _ (List.getElem_mem hk)


theorem norm_as (p a r : Int) (w : World) (hp : rightB p = true) (ha0 : 0 ≤ a) (h : a % p = r) :
    Calls Try.prog 25 #[.int .u64 p, .int .u64 a] w (Ret (.tuple #[.int .u64 r, .int .i64 0]) w) := h ▸ norm_yes p a w hp ha0
end Go.Proofs.Ytcganfmlfoebpaa
