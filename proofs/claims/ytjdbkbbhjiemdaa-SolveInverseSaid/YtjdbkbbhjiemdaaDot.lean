/- What field.Dot, Div and Norm answer. -/
import Derived.Test.YtjdbkbbhjiemdaaField
import Derived.Laws.Externs
namespace Go.Proofs.Ytjdbkbbhjiemdaa
open Go.RowKit

set_option maxHeartbeats 400000 in
theorem div_yes (p a b : Int) (w : World) (hp : rightB p = true) (ha0 : 0 ≤ a) (ha : a < p) (hb0 : 0 ≤ b) (hb : b < p) (hub : unitB p b = true) :
    Calls Try.prog 74 #[.int .u64 p, .int .u64 a, .int .u64 b] w (Ret (.tuple #[.int .u64 (a * minv p b % p), .int .i64 0]) w) := by
  have hp2 := rightB_true hp
  have hh := hid (hasB_two hp ha hb)
  have Hp := hid hp; have Hu := hid hub
  have hm := minv_range p b hp2.1
  clear hp hub
  go_enter Try.func74, Try.ntmps74
  go_wp2_with fail
  refine (has_yes _ _ [a, b] _ Ints.new2 (U64s.cons (by omega) (by omega) (U64s.one (by omega) (by omega))) hh.out).mono ?_
  rintro e w' ⟨rfl, rfl⟩
  go_wp2_with fail
  refine (inv_yes p b _ Hp.out hb0 hb Hu.out).mono ?_
  rintro e w1 ⟨rfl, hw1⟩
  go_wp2_with fail
  refine (times_any p _ _ _ (by omega) (by omega) (by omega) (by omega) (by omega) (by omega) (.inl ha)).mono ?_
  rintro e w' ⟨rfl, n, rfl⟩
  go_wp2_with fail
  go_ret2
  exact ⟨rfl, Ext.trans (Ext.alloc (Ext.refl _) _) (Ext.drewN hw1 _)⟩
set_option maxHeartbeats 400000 in
theorem div_zero (p a b : Int) (w : World) (hp : rightB p = true) (ha0 : 0 ≤ a) (ha : a < p) (hb0 : 0 ≤ b) (hb : b < p) (hub : unitB p b = false) :
    Calls Try.prog 74 #[.int .u64 p, .int .u64 a, .int .u64 b] w (Ret (.tuple #[.int .u64 0, .int .i64 5]) w) := by
  have hp2 := rightB_true hp
  have hh := hid (hasB_two hp ha hb)
  have Hp := hid hp; have Hu := hid hub
  clear hp hub
  go_enter Try.func74, Try.ntmps74
  go_wp2_with fail
  refine (has_yes _ _ [a, b] _ Ints.new2 (U64s.cons (by omega) (by omega) (U64s.one (by omega) (by omega))) hh.out).mono ?_
  rintro e w' ⟨rfl, rfl⟩
  go_wp2_with fail
  refine (inv_zero p b _ Hp.out hb0 hb Hu.out).mono ?_
  rintro e w1 ⟨rfl, hw1⟩
  go_wp2_with fail
  go_ret2
  exact ⟨rfl, Ext.trans (Ext.alloc (Ext.refl _) _) hw1⟩
set_option maxHeartbeats 400000 in
theorem div_no (p a b : Int) (w : World) (hp0 : 0 ≤ p) (hp : p ≤ 18446744073709551615) (ha0 : 0 ≤ a) (ha : a ≤ 18446744073709551615) (hb0 : 0 ≤ b) (hb : b ≤ 18446744073709551615) (h : hasB p [a, b] = false) :
    Calls Try.prog 74 #[.int .u64 p, .int .u64 a, .int .u64 b] w (Ret (.tuple #[.int .u64 0, .int .i64 1]) w) := by
  have hh := hid h
  clear h
  go_enter Try.func74, Try.ntmps74
  go_wp2_with fail
  refine (has_no _ _ [a, b] _ hp0 hp Ints.new2 (U64s.cons ha0 ha (U64s.one hb0 hb)) hh.out).mono ?_
  rintro e w' ⟨rfl, rfl⟩
  go_wp2_with fail
  go_ret2
  exact ⟨rfl, (by repeat (first | exact Ext.refl _ | assumption | refine Ext.drew ?_ | refine Ext.drewN ?_ _ | refine Ext.alloc ?_ _ | refine Ext.trans ?_ (by assumption)))⟩

theorem add64_run (x y : Int) (hx : 0 ≤ x) (hy : 0 ≤ y) (w : World) :
    (callFunc 61 #[.int .u64 x, .int .u64 y, .int .u64 0]).run Try.prog w =
      .ok (.value (.tuple #[.int .u64 ((x + y) % 18446744073709551616), .int .u64 ((x + y) / 18446744073709551616)])) w := by
  rw [run_callFunc_extern Try.func61 (by kernel_rfl) (by kernel_rfl) (by kernel_rfl) (e := add64Entry) (by kernel_rfl), run_add64 x y 0 hx hy (by omega) (by omega)]
  simp [Result.andThen]

/-- a step of Dot's two words -/
theorem dot_step {p x y hi lo s : Int} (hp : 2 ≤ p) (hp1 : p ≤ 9223372036854775807) (hx0 : 0 ≤ x) (hx : x < p) (hy0 : 0 ≤ y) (hy : y < p) (hh : hi < p) (hl0 : 0 ≤ lo) (hl : lo ≤ 18446744073709551615)
    (h : (hi * 18446744073709551616 + lo) % p = s % p) :
    0 ≤ x * y / 18446744073709551616 ∧ 0 ≤ x * y % 18446744073709551616 ∧ x * y % 18446744073709551616 ≤ 18446744073709551615 ∧
    0 ≤ (lo + x * y % 18446744073709551616) / 18446744073709551616 ∧ (lo + x * y % 18446744073709551616) / 18446744073709551616 ≤ 1 ∧ 0 ≤ (lo + x * y) % 18446744073709551616 ∧ (lo + x * y) % 18446744073709551616 ≤ 18446744073709551615 ∧
    hi + x * y / 18446744073709551616 + (lo + x * y % 18446744073709551616) / 18446744073709551616 < 2 * p ∧
    (((hi + x * y / 18446744073709551616 + (lo + x * y % 18446744073709551616) / 18446744073709551616) % p) * 18446744073709551616 + (lo + x * y) % 18446744073709551616) % p = (s + x * y) % p := by
  have h1 := Int.mul_nonneg hx0 hy0
  have h2 : x * y ≤ (p - 1) * (p - 1) := Int.mul_le_mul (by omega) (by omega) hy0 (by omega)
  have h3 : (p - 1) * (p - 1) ≤ 9223372036854775806 * (p - 1) := Int.mul_le_mul_of_nonneg_right (by omega) (by omega)
  refine ⟨by omega, by omega, by omega, by omega, by omega, by omega, by omega, by omega, ?_⟩
  rw [← ma_l, mm_l, ma_l]
  have e : (hi + x * y / 18446744073709551616 + (lo + x * y % 18446744073709551616) / 18446744073709551616) * 18446744073709551616 + (lo + x * y) % 18446744073709551616 = (hi * 18446744073709551616 + lo) + x * y := by omega
  rw [e, ← ma_l, h, ma_l]

/-- the sum of the products, place by place -/
def dotZ : List Int → List Int → Int
  | x :: xs, y :: ys => x * y + dotZ xs ys
  | _, _ => 0
theorem dotZ_comm : ∀ xs ys : List Int, dotZ xs ys = dotZ ys xs
  | x :: xs, y :: ys => by rw [dotZ, dotZ, dotZ_comm xs ys, Int.mul_comm]
  | [], [] => rfl
  | [], _ :: _ => rfl
  | _ :: _, [] => rfl
theorem dotZ_cut (k : Nat) : ∀ xs ys : List Int, dotZ (xs.take k) (ys.take k) + dotZ (xs.drop k) (ys.drop k) = dotZ xs ys := by
  induction k with
  | zero => intro xs ys; simp [dotZ]
  | succ k ih =>
    intro xs ys
    match xs, ys with
    | [], ys => simp [dotZ]
    | x :: xs, [] => simp [dotZ]
    | x :: xs, y :: ys =>
      have := ih xs ys
      simp only [List.take_succ_cons, List.drop_succ_cons, dotZ]; omega
theorem dotZ_zero : ∀ (xs : List Int) (n : Nat), dotZ xs (List.replicate n 0) = 0
  | [], n => by cases n <;> simp [dotZ]
  | x :: xs, 0 => by simp [dotZ]
  | x :: xs, n + 1 => by rw [List.replicate_succ, dotZ, dotZ_zero xs n]; simp
theorem dotZ_snoc : ∀ (xs ys : List Int) (x y : Int), xs.length = ys.length → dotZ (xs ++ [x]) (ys ++ [y]) = dotZ xs ys + x * y
  | [], [], x, y, _ => by simp [dotZ]
  | a :: xs, b :: ys, x, y, h => by
    have := dotZ_snoc xs ys x y (by simpa using h)
    simp only [List.cons_append, dotZ, this]; omega
theorem take_snoc (xs : List Int) (k : Nat) (h : k < xs.length) : xs.take (k + 1) = xs.take k ++ [xs.getD k 0] := by
  rw [List.take_succ_eq_append_getElem h]; simp [List.getD, List.getElem?_eq_getElem h]
theorem dotZ_take (xs ys : List Int) (k : Nat) (h : k < xs.length) (h' : k < ys.length) : dotZ (xs.take (k + 1)) (ys.take (k + 1)) = dotZ (xs.take k) (ys.take k) + xs.getD k 0 * ys.getD k 0 := by
  rw [take_snoc xs k h, take_snoc ys k h', dotZ_snoc _ _ _ _ (by simp; omega)]
theorem get_lt {p : Int} {xs : List Int} (h : ∀ x ∈ xs, x < p) {k : Nat} (hk : k < xs.length) : xs.getD k 0 < p := by
  have e : xs.getD k 0 = xs[k] := by simp [List.getD, List.getElem?_eq_getElem hk]
  rw [e]; exact h _ (List.getElem_mem hk)

set_option maxHeartbeats 1000000 in
theorem dot_drw (p : Int) (v u : Value) (xs ys : List Int) (w : World) (hv : Ints .u64 w v xs) (hu : Ints .u64 w u ys) (hx : U64s xs) (hy : U64s ys) (hl : xs.length = ys.length) (h1 : hasB p xs = true) (h2 : hasB p ys = true) :
    Calls Try.prog 27 #[.int .u64 p, v, u] w (RetD (.tuple #[.int .u64 (dotZ xs ys % p), .int .i64 0]) w) := by
  have hp2 := rightB_true (hasB_true h1).1
  have H1 := hid h1; have H2 := hid h2; clear h1 h2
  have Hv := hid hv; have Hu := hid hu
  obtain ⟨a, cap, rfl, hc1, hc2, hc⟩ := hv
  obtain ⟨a', cap', rfl, hc1', hc2', hc'⟩ := hu
  have Hc := hid hc; have Hc' := hid hc'; clear hc hc'
  have Hx := hid hx; have Hy := hid hy; clear hx hy
  rw [← hl] at Hc' Hu hc1' ⊢
  obtain ⟨n, hn⟩ : ∃ n, xs.length = n := ⟨_, rfl⟩
  have Hl := hid hl; clear hl
  rw [hn] at Hc Hc' Hu Hv hc1 hc1' ⊢
  have Hn := hid hn; clear hn
  go_enter Try.func27, Try.ntmps27
  go_wp2_with (first
    | (go_at_call_of 24 a; refine (has_yes p _ _ _ Hv.out Hx.out H1.out).mono ?_; rintro e w' ⟨rfl, rfl⟩)
    | (go_at_call_of 24 a'; refine (has_yes p _ _ _ Hu.out Hy.out H2.out).mono ?_; rintro e w' ⟨rfl, rfl⟩))
  go_loopw [33, 8, 9] (fun i h l wr => ∃ (k : Nat) (hi lo : Int), i = .int .i64 k ∧ h = .int .u64 hi ∧ l = .int .u64 lo ∧ k ≤ n ∧ 0 ≤ hi ∧ hi < p ∧ 0 ≤ lo ∧ lo ≤ 18446744073709551615 ∧
    (hi * 18446744073709551616 + lo) % p = dotZ (xs.take k) (ys.take k) % p ∧ Drw w wr) (fun i _ _ _ => n - (intOf i).toNat)
  case atStart => exact ⟨0, 0, 0, rfl, rfl, rfl, by omega, by omega, by omega, by omega, by omega, by simp [dotZ], Drw.refl _⟩
  case round =>
    obtain ⟨k, hi, lo, rfl, rfl, rfl, hk, hh0, hh, hl0, hl, he, hdw⟩ := hrel
    have hw := hdw.ext
    have He := hid he; clear he
    by_cases hlt : k < n
    · obtain ⟨b, off, rfl, hb, hcell⟩ := Hc.out (by omega)
      obtain ⟨b', off', rfl, hb', hcell'⟩ := Hc'.out (by omega)
      have g := (hw.cells _ _ hb).trans (hcell k hlt)
      have g' := (hw.cells _ _ hb').trans (hcell' k hlt)
      have hg := U64s.get Hx.out (k := k) (by rw [Hn.out]; exact hlt)
      have hg' := U64s.get Hy.out (k := k) (by rw [← Hl.out, Hn.out]; exact hlt)
      have lt1 := get_lt (hasB_true H1.out).2 (k := k) (by rw [Hn.out]; exact hlt)
      have lt2 := get_lt (hasB_true H2.out).2 (k := k) (by rw [← Hl.out, Hn.out]; exact hlt)
      have hd := dotZ_take xs ys k (by rw [Hn.out]; exact hlt) (by rw [← Hl.out, Hn.out]; exact hlt)
      clear hcell hcell'
      generalize xs.getD k 0 = x at *
      generalize ys.getD k 0 = y at *
      have hs := dot_step hp2.1 hp2.2 hg.1 lt1 hg'.1 lt2 hh hl0 hl He.out
      rw [← hd] at hs
      obtain ⟨s1, s2, s3, s4, s5, s6, s7, s8, s9⟩ := hs
      have S9 := hid s9
      clear s9 hd
      have ha := add64_run lo (x * y % 18446744073709551616) hl0 s2
      go_wp2_with fail
      go_quiet ((go_at_call 60; exact quiet_l (mul64_any _ _ _ hg.1 hg.2 hg'.1 hg'.2)))
      go_wp2_with fail
      refine (less_any p _ _ (by omega) hp2.2 (by omega) s8).mono ?_
      rintro e w' ⟨rfl, rfl⟩
      go_wp2_with fail
      have r := mod_range (hi + x * y / 18446744073709551616 + (lo + x * y % 18446744073709551616) / 18446744073709551616) hp2.1
      go_roundw
      case rel => exact ⟨k + 1, _, _, by go_num, rfl, rfl, by omega, r.1, r.2, s6, s7, S9.out, hdw.drewN _⟩
      case measure => simp [intOf]; omega
    · obtain rfl : k = n := by omega
      have e2 := He.out
      rw [List.take_of_length_le (by rw [Hn.out]; omega), List.take_of_length_le (by rw [← Hl.out, Hn.out]; omega)] at e2
      have E2 := hid e2; clear e2
      go_wp2_with fail
      refine (left_any p hi lo _ hh0 hh (by omega) hl0 hl).mono ?_
      rintro e w' ⟨rfl, m, rfl⟩
      go_wp2_with fail
      go_ret2
      exact ⟨by rw [← E2.out]; rfl, hdw.drewN _⟩
theorem dot_yes (p : Int) (v u : Value) (xs ys : List Int) (w : World) (hv : Ints .u64 w v xs) (hu : Ints .u64 w u ys) (hx : U64s xs) (hy : U64s ys) (hl : xs.length = ys.length) (h1 : hasB p xs = true) (h2 : hasB p ys = true) :
    Calls Try.prog 27 #[.int .u64 p, v, u] w (Ret (.tuple #[.int .u64 (dotZ xs ys % p), .int .i64 0]) w) := RetD.ret (dot_drw p v u xs ys w hv hu hx hy hl h1 h2)
set_option maxHeartbeats 1000000 in
theorem dot_no (p : Int) (v u : Value) (xs ys : List Int) (w : World) (hp0 : 0 ≤ p) (hp : p ≤ 18446744073709551615) (hv : Ints .u64 w v xs) (hu : Ints .u64 w u ys) (hx : U64s xs) (hy : U64s ys) (h : xs.length ≠ ys.length ∨ hasB p xs = false ∨ hasB p ys = false) :
    Calls Try.prog 27 #[.int .u64 p, v, u] w (Ret (.tuple #[.int .u64 0, .int .i64 1]) w) := by
  have Hv := hid hv; have Hu := hid hu
  obtain ⟨a, cap, rfl, hc1, hc2, hc⟩ := hv
  obtain ⟨a', cap', rfl, hc1', hc2', hc'⟩ := hu
  clear hc hc'
  obtain ⟨n, hn⟩ : ∃ n, xs.length = n := ⟨_, rfl⟩
  obtain ⟨m, hm⟩ : ∃ m, ys.length = m := ⟨_, rfl⟩
  rw [hn, hm] at h
  rw [hn] at Hv hc1 ⊢
  rw [hm] at Hu hc1' ⊢
  clear hn hm
  have Hx := hid hx; have Hy := hid hy; clear hx hy
  by_cases hl : n = m
  · have t1 : ((n : Int) != (m : Int)) = false := by rw [hl]; simp
    by_cases h1 : hasB p xs = true
    · have h2 : hasB p ys = false := by
        rcases h with h | h | h
        · exact absurd hl h
        · rw [h1] at h; cases h
        · exact h
      have H1 := hid h1; have H2 := hid h2; clear h1 h2 hl h
      go_enter Try.func27, Try.ntmps27
      go_wp2_with (first
        | (go_at_call_of 24 a; refine (has_yes p _ _ _ Hv.out Hx.out H1.out).mono ?_; rintro e w' ⟨rfl, rfl⟩)
        | (go_at_call_of 24 a'; refine (has_no p _ _ _ hp0 hp Hu.out Hy.out H2.out).mono ?_; rintro e w' ⟨rfl, rfl⟩))
      go_ret2
      exact ⟨rfl, (by repeat (first | exact Ext.refl _ | assumption | refine Ext.drew ?_ | refine Ext.drewN ?_ _ | refine Ext.alloc ?_ _ | refine Ext.trans ?_ (by assumption)))⟩
    · have H1 := hid (Bool.eq_false_iff.2 h1); clear h1 hl h
      go_enter Try.func27, Try.ntmps27
      go_wp2_with (go_at_call 24; refine (has_no p _ _ _ hp0 hp Hv.out Hx.out H1.out).mono ?_; rintro e w' ⟨rfl, rfl⟩)
      go_ret2
      exact ⟨rfl, (by repeat (first | exact Ext.refl _ | assumption | refine Ext.drew ?_ | refine Ext.drewN ?_ _ | refine Ext.alloc ?_ _ | refine Ext.trans ?_ (by assumption)))⟩
  · have t1 : ((n : Int) != (m : Int)) = true := by simp; omega
    clear hl h
    go_enter Try.func27, Try.ntmps27
    go_wp2_with fail
    go_ret2
    exact ⟨rfl, (by repeat (first | exact Ext.refl _ | assumption | refine Ext.drew ?_ | refine Ext.drewN ?_ _ | refine Ext.alloc ?_ _ | refine Ext.trans ?_ (by assumption)))⟩

theorem div_as (p a b r : Int) (w : World) (hp : rightB p = true) (ha0 : 0 ≤ a) (ha : a < p) (hb0 : 0 ≤ b) (hb : b < p) (hub : unitB p b = true) (h : a * minv p b % p = r) :
    Calls Try.prog 74 #[.int .u64 p, .int .u64 a, .int .u64 b] w (Ret (.tuple #[.int .u64 r, .int .i64 0]) w) := h ▸ div_yes p a b w hp ha0 ha hb0 hb hub
theorem dot_as (p r : Int) (v u : Value) (xs ys : List Int) (w : World) (hv : Ints .u64 w v xs) (hu : Ints .u64 w u ys) (hx : U64s xs) (hy : U64s ys) (hl : xs.length = ys.length) (h1 : hasB p xs = true) (h2 : hasB p ys = true) (h : dotZ xs ys % p = r) :
    Calls Try.prog 27 #[.int .u64 p, v, u] w (Ret (.tuple #[.int .u64 r, .int .i64 0]) w) := h ▸ dot_yes p v u xs ys w hv hu hx hy hl h1 h2
theorem dotD_as (p r : Int) (v u : Value) (xs ys : List Int) (w : World) (hv : Ints .u64 w v xs) (hu : Ints .u64 w u ys) (hx : U64s xs) (hy : U64s ys) (hl : xs.length = ys.length) (h1 : hasB p xs = true) (h2 : hasB p ys = true) (h : dotZ xs ys % p = r) :
    Calls Try.prog 27 #[.int .u64 p, v, u] w (RetD (.tuple #[.int .u64 r, .int .i64 0]) w) := h ▸ dot_drw p v u xs ys w hv hu hx hy hl h1 h2
end Go.Proofs.Ytjdbkbbhjiemdaa
