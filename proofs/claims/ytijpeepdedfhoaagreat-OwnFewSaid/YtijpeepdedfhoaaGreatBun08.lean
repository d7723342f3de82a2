/- What the texts Dot, Piece, MatM, Ref01, MatL, OrdM show, in one text. -/
import Derived.Test.YtijpeepdedfhoaaGreatBun05
import Derived.Laws.Externs
import Derived.Test.YtijpeepdedfhoaaGreatBun04
/- What field.Dot, Div and Norm answer. -/
namespace Go.Proofs.YtijpeepdedfhoaaGreat
open Go.RowKit

set_option maxHeartbeats 400000 in
theorem norm_yes (p a : Int) (w : World) (hp : rightB p = true) (ha0 : 0 ≤ a) :
    Calls Tryz.prog 104 #[.int .u64 p, .int .u64 a] w (Ret (.tuple #[.int .u64 (a % p), .int .i64 0]) w) := by
  have hp2 := rightB_true hp
  go_enter Tryz.func104, Tryz.ntmps104
  go_wp2_with (go_at_call 71; refine (right_any _ _ (by omega) (by omega)).mono ?_; rintro e w' ⟨rfl, rfl⟩)
  go_ret2
  exact ⟨rfl, (by repeat (first | exact Ext.refl _ | assumption | refine Ext.drew ?_ | refine Ext.drewN ?_ _ | refine Ext.alloc ?_ _ | refine Ext.trans ?_ (by assumption)))⟩
set_option maxHeartbeats 400000 in
theorem norm_no (p a : Int) (w : World) (hp0 : 0 ≤ p) (hp1 : p ≤ 18446744073709551615) (hp : rightB p = false) :
    Calls Tryz.prog 104 #[.int .u64 p, .int .u64 a] w (Ret (.tuple #[.int .u64 0, .int .i64 1]) w) := by
  go_enter Tryz.func104, Tryz.ntmps104
  go_wp2_with (go_at_call 71; refine (right_any _ _ (by omega) (by omega)).mono ?_; rintro e w' ⟨rfl, rfl⟩)
  go_ret2
  exact ⟨rfl, (by repeat (first | exact Ext.refl _ | assumption | refine Ext.drew ?_ | refine Ext.drewN ?_ _ | refine Ext.alloc ?_ _ | refine Ext.trans ?_ (by assumption)))⟩
set_option maxHeartbeats 400000 in
theorem div_yes (p a b : Int) (w : World) (hp : rightB p = true) (ha0 : 0 ≤ a) (ha : a < p) (hb0 : 0 ≤ b) (hb : b < p) (hub : unitB p b = true) :
    Calls Tryz.prog 115 #[.int .u64 p, .int .u64 a, .int .u64 b] w (Ret (.tuple #[.int .u64 (a * minv p b % p), .int .i64 0]) w) := by
  have hp2 := rightB_true hp
  have hh := hid (hasB_two hp ha hb)
  have Hp := hid hp; have Hu := hid hub
  have hm := minv_range p b hp2.1
  clear hp hub
  go_enter Tryz.func115, Tryz.ntmps115
  go_wp2_with fail
  refine (has_yes _ _ [a, b] _ Ints.new2 (U64s.cons (by omega) (by omega) (U64s.one (by omega) (by omega))) hh.out).mono ?_
  rintro e w' ⟨rfl, rfl⟩
  go_wp2_with fail
  refine (inv_yes p b _ Hp.out hb0 hb Hu.out).mono ?_
  rintro e w1 ⟨rfl, hw1⟩
  go_wp2_with fail
  refine (times_any p _ _ _ (by omega) (by omega) (by omega) (by omega) (by omega) (by omega) (.inl ha)).mono ?_
  rintro e w' ⟨rfl, n, rfl⟩
  go_wp2_with fail
  go_ret2
  exact ⟨rfl, Ext.trans (Ext.alloc (Ext.refl _) _) (Ext.drewN hw1 _)⟩
set_option maxHeartbeats 400000 in
theorem div_zero (p a b : Int) (w : World) (hp : rightB p = true) (ha0 : 0 ≤ a) (ha : a < p) (hb0 : 0 ≤ b) (hb : b < p) (hub : unitB p b = false) :
    Calls Tryz.prog 115 #[.int .u64 p, .int .u64 a, .int .u64 b] w (Ret (.tuple #[.int .u64 0, .int .i64 5]) w) := by
  have hp2 := rightB_true hp
  have hh := hid (hasB_two hp ha hb)
  have Hp := hid hp; have Hu := hid hub
  clear hp hub
  go_enter Tryz.func115, Tryz.ntmps115
  go_wp2_with fail
  refine (has_yes _ _ [a, b] _ Ints.new2 (U64s.cons (by omega) (by omega) (U64s.one (by omega) (by omega))) hh.out).mono ?_
  rintro e w' ⟨rfl, rfl⟩
  go_wp2_with fail
  refine (inv_zero p b _ Hp.out hb0 hb Hu.out).mono ?_
  rintro e w1 ⟨rfl, hw1⟩
  go_wp2_with fail
  go_ret2
  exact ⟨rfl, Ext.trans (Ext.alloc (Ext.refl _) _) hw1⟩
set_option maxHeartbeats 400000 in
theorem div_no (p a b : Int) (w : World) (hp0 : 0 ≤ p) (hp : p ≤ 18446744073709551615) (ha0 : 0 ≤ a) (ha : a ≤ 18446744073709551615) (hb0 : 0 ≤ b) (hb : b ≤ 18446744073709551615) (h : hasB p [a, b] = false) :
    Calls Tryz.prog 115 #[.int .u64 p, .int .u64 a, .int .u64 b] w (Ret (.tuple #[.int .u64 0, .int .i64 1]) w) := by
  have hh := hid h
  clear h
  go_enter Tryz.func115, Tryz.ntmps115
  go_wp2_with fail
  refine (has_no _ _ [a, b] _ hp0 hp Ints.new2 (U64s.cons ha0 ha (U64s.one hb0 hb)) hh.out).mono ?_
  rintro e w' ⟨rfl, rfl⟩
  go_wp2_with fail
  go_ret2
  exact ⟨rfl, (by repeat (first | exact Ext.refl _ | assumption | refine Ext.drew ?_ | refine Ext.drewN ?_ _ | refine Ext.alloc ?_ _ | refine Ext.trans ?_ (by assumption)))⟩

theorem add64_run (x y : Int) (hx : 0 ≤ x) (hy : 0 ≤ y) (w : World) :
    (callFunc 101 #[.int .u64 x, .int .u64 y, .int .u64 0]).run Tryz.prog w =
      .ok (.value (.tuple #[.int .u64 ((x + y) % 18446744073709551616), .int .u64 ((x + y) / 18446744073709551616)])) w := by
  rw [run_callFunc_extern Tryz.func101 (by kernel_rfl) (by kernel_rfl) (by kernel_rfl) (e := add64Entry) (by kernel_rfl), run_add64 x y 0 hx hy (by omega) (by omega)]
  simp [Result.andThen]

/-- a step of Dot's two words -/
theorem dot_step {p x y hi lo s : Int} (hp : 2 ≤ p) (hp1 : p ≤ 9223372036854775807) (hx0 : 0 ≤ x) (hx : x < p) (hy0 : 0 ≤ y) (hy : y < p) (hh : hi < p) (hl0 : 0 ≤ lo) (hl : lo ≤ 18446744073709551615)
    (h : (hi * 18446744073709551616 + lo) % p = s % p) :
    0 ≤ x * y / 18446744073709551616 ∧ 0 ≤ x * y % 18446744073709551616 ∧ x * y % 18446744073709551616 ≤ 18446744073709551615 ∧
    0 ≤ (lo + x * y % 18446744073709551616) / 18446744073709551616 ∧ (lo + x * y % 18446744073709551616) / 18446744073709551616 ≤ 1 ∧ 0 ≤ (lo + x * y) % 18446744073709551616 ∧ (lo + x * y) % 18446744073709551616 ≤ 18446744073709551615 ∧
    hi + x * y / 18446744073709551616 + (lo + x * y % 18446744073709551616) / 18446744073709551616 < 2 * p ∧
    (((hi + x * y / 18446744073709551616 + (lo + x * y % 18446744073709551616) / 18446744073709551616) % p) * 18446744073709551616 + (lo + x * y) % 18446744073709551616) % p = (s + x * y) % p := by
  have h1 := Int.mul_nonneg hx0 hy0
  have h2 : x * y ≤ (p - 1) * (p - 1) := Int.mul_le_mul (by omega) (by omega) hy0 (by omega)
  have h3 : (p - 1) * (p - 1) ≤ 9223372036854775806 * (p - 1) := Int.mul_le_mul_of_nonneg_right (by omega) (by omega)
  refine ⟨by omega, by omega, by omega, by omega, by omega, by omega, by omega, by omega, ?_⟩
  rw [← ma_l, mm_l, ma_l]
  have e : (hi + x * y / 18446744073709551616 + (lo + x * y % 18446744073709551616) / 18446744073709551616) * 18446744073709551616 + (lo + x * y) % 18446744073709551616 = (hi * 18446744073709551616 + lo) + x * y := by omega
  rw [e, ← ma_l, h, ma_l]

/-- the sum of the products, place by place -/
def dotZ : List Int → List Int → Int
  | x :: xs, y :: ys => x * y + dotZ xs ys
  | _, _ => 0
theorem dotZ_comm : ∀ xs ys : List Int, dotZ xs ys = dotZ ys xs
  | x :: xs, y :: ys => by rw [dotZ, dotZ, dotZ_comm xs ys, Int.mul_comm]
  | [], [] => rfl
  | [], _ :: _ => rfl
  | _ :: _, [] => rfl
theorem dotZ_cut (k : Nat) : ∀ xs ys : List Int, dotZ (xs.take k) (ys.take k) + dotZ (xs.drop k) (ys.drop k) = dotZ xs ys := by
  induction k with
  | zero => intro xs ys; simp [dotZ]
  | succ k ih =>
    intro xs ys
    match xs, ys with
    | [], ys => simp [dotZ]
    | x :: xs, [] => simp [dotZ]
    | x :: xs, y :: ys =>
      have := ih xs ys
      simp only [List.take_succ_cons, List.drop_succ_cons, dotZ]; omega
theorem dotZ_zero : ∀ (xs : List Int) (n : Nat), dotZ xs (List.replicate n 0) = 0
  | [], n => by cases n <;> simp [dotZ]
  | x :: xs, 0 => by simp [dotZ]
  | x :: xs, n + 1 => by rw [List.replicate_succ, dotZ, dotZ_zero xs n]; simp
theorem dotZ_snoc : ∀ (xs ys : List Int) (x y : Int), xs.length = ys.length → dotZ (xs ++ [x]) (ys ++ [y]) = dotZ xs ys + x * y
  | [], [], x, y, _ => by simp [dotZ]
  | a :: xs, b :: ys, x, y, h => by
    have := dotZ_snoc xs ys x y (by simpa using h)
    simp only [List.cons_append, dotZ, this]; omega
theorem take_snoc (xs : List Int) (k : Nat) (h : k < xs.length) : xs.take (k + 1) = xs.take k ++ [xs.getD k 0] := by
  rw [List.take_succ_eq_append_getElem h]; simp [List.getD, List.getElem?_eq_getElem h]
theorem dotZ_take (xs ys : List Int) (k : Nat) (h : k < xs.length) (h' : k < ys.length) : dotZ (xs.take (k + 1)) (ys.take (k + 1)) = dotZ (xs.take k) (ys.take k) + xs.getD k 0 * ys.getD k 0 := by
  rw [take_snoc xs k h, take_snoc ys k h', dotZ_snoc _ _ _ _ (by simp; omega)]
theorem get_lt {p : Int} {xs : List Int} (h : ∀ x ∈ xs, x < p) {k : Nat} (hk : k < xs.length) : xs.getD k 0 < p := by
  have e : xs.getD k 0 = xs[k] := by simp [List.getD, List.getElem?_eq_getElem hk]
  rw [e]; exact h _ (List.getElem_mem hk)

set_option maxHeartbeats 1000000 in
theorem dot_drw (p : Int) (v u : Value) (xs ys : List Int) (w : World) (hv : Ints .u64 w v xs) (hu : Ints .u64 w u ys) (hx : U64s xs) (hy : U64s ys) (hl : xs.length = ys.length) (h1 : hasB p xs = true) (h2 : hasB p ys = true) :
    Calls Tryz.prog 72 #[.int .u64 p, v, u] w (RetD (.tuple #[.int .u64 (dotZ xs ys % p), .int .i64 0]) w) := by
  have hp2 := rightB_true (hasB_true h1).1
  have H1 := hid h1; have H2 := hid h2; clear h1 h2
  have Hv := hid hv; have Hu := hid hu
  obtain ⟨a, cap, rfl, hc1, hc2, hc⟩ := hv
  obtain ⟨a', cap', rfl, hc1', hc2', hc'⟩ := hu
  have Hc := hid hc; have Hc' := hid hc'; clear hc hc'
  have Hx := hid hx; have Hy := hid hy; clear hx hy
  rw [← hl] at Hc' Hu hc1' ⊢
  obtain ⟨n, hn⟩ : ∃ n, xs.length = n := ⟨_, rfl⟩
  have Hl := hid hl; clear hl
  rw [hn] at Hc Hc' Hu Hv hc1 hc1' ⊢
  have Hn := hid hn; clear hn
  go_enter Tryz.func72, Tryz.ntmps72
  go_wp2_with (first
    | (go_at_call_of 30 a; refine (has_yes p _ _ _ Hv.out Hx.out H1.out).mono ?_; rintro e w' ⟨rfl, rfl⟩)
    | (go_at_call_of 30 a'; refine (has_yes p _ _ _ Hu.out Hy.out H2.out).mono ?_; rintro e w' ⟨rfl, rfl⟩))
  go_loopw [33, 8, 9] (fun i h l wr => ∃ (k : Nat) (hi lo : Int), i = .int .i64 k ∧ h = .int .u64 hi ∧ l = .int .u64 lo ∧ k ≤ n ∧ 0 ≤ hi ∧ hi < p ∧ 0 ≤ lo ∧ lo ≤ 18446744073709551615 ∧
    (hi * 18446744073709551616 + lo) % p = dotZ (xs.take k) (ys.take k) % p ∧ Drw w wr) (fun i _ _ _ => n - (intOf i).toNat)
  case atStart => exact ⟨0, 0, 0, rfl, rfl, rfl, by omega, by omega, by omega, by omega, by omega, by simp [dotZ], Drw.refl _⟩
  case round =>
    obtain ⟨k, hi, lo, rfl, rfl, rfl, hk, hh0, hh, hl0, hl, he, hdw⟩ := hrel
    have hw := hdw.ext
    have He := hid he; clear he
    by_cases hlt : k < n
    · obtain ⟨b, off, rfl, hb, hcell⟩ := Hc.out (by omega)
      obtain ⟨b', off', rfl, hb', hcell'⟩ := Hc'.out (by omega)
      have g := (hw.cells _ _ hb).trans (hcell k hlt)
      have g' := (hw.cells _ _ hb').trans (hcell' k hlt)
      have hg := U64s.get Hx.out (k := k) (by rw [Hn.out]; exact hlt)
      have hg' := U64s.get Hy.out (k := k) (by rw [← Hl.out, Hn.out]; exact hlt)
      have lt1 := get_lt (hasB_true H1.out).2 (k := k) (by rw [Hn.out]; exact hlt)
      have lt2 := get_lt (hasB_true H2.out).2 (k := k) (by rw [← Hl.out, Hn.out]; exact hlt)
      have hd := dotZ_take xs ys k (by rw [Hn.out]; exact hlt) (by rw [← Hl.out, Hn.out]; exact hlt)
      clear hcell hcell'
      generalize xs.getD k 0 = x at *
      generalize ys.getD k 0 = y at *
      have hs := dot_step hp2.1 hp2.2 hg.1 lt1 hg'.1 lt2 hh hl0 hl He.out
      rw [← hd] at hs
      obtain ⟨s1, s2, s3, s4, s5, s6, s7, s8, s9⟩ := hs
      have S9 := hid s9
      clear s9 hd
      have ha := add64_run lo (x * y % 18446744073709551616) hl0 s2
      go_wp2_with fail
      go_quiet ((go_at_call 100; exact quiet_l (mul64_any _ _ _ hg.1 hg.2 hg'.1 hg'.2)))
      go_wp2_with fail
      refine (less_any p _ _ (by omega) hp2.2 (by omega) s8).mono ?_
      rintro e w' ⟨rfl, rfl⟩
      go_wp2_with fail
      have r := mod_range (hi + x * y / 18446744073709551616 + (lo + x * y % 18446744073709551616) / 18446744073709551616) hp2.1
      go_roundw
      case rel => exact ⟨k + 1, _, _, by go_num, rfl, rfl, by omega, r.1, r.2, s6, s7, S9.out, hdw.drewN _⟩
      case measure => simp [intOf]; omega
    · obtain rfl : k = n := by omega
      have e2 := He.out
      rw [List.take_of_length_le (by rw [Hn.out]; omega), List.take_of_length_le (by rw [← Hl.out, Hn.out]; omega)] at e2
      have E2 := hid e2; clear e2
      go_wp2_with fail
      refine (left_any p hi lo _ hh0 hh (by omega) hl0 hl).mono ?_
      rintro e w' ⟨rfl, m, rfl⟩
      go_wp2_with fail
      go_ret2
      exact ⟨by rw [← E2.out]; rfl, hdw.drewN _⟩
theorem dot_yes (p : Int) (v u : Value) (xs ys : List Int) (w : World) (hv : Ints .u64 w v xs) (hu : Ints .u64 w u ys) (hx : U64s xs) (hy : U64s ys) (hl : xs.length = ys.length) (h1 : hasB p xs = true) (h2 : hasB p ys = true) :
    Calls Tryz.prog 72 #[.int .u64 p, v, u] w (Ret (.tuple #[.int .u64 (dotZ xs ys % p), .int .i64 0]) w) := RetD.ret (dot_drw p v u xs ys w hv hu hx hy hl h1 h2)
set_option maxHeartbeats 1000000 in
theorem dot_no (p : Int) (v u : Value) (xs ys : List Int) (w : World) (hp0 : 0 ≤ p) (hp : p ≤ 18446744073709551615) (hv : Ints .u64 w v xs) (hu : Ints .u64 w u ys) (hx : U64s xs) (hy : U64s ys) (h : xs.length ≠ ys.length ∨ hasB p xs = false ∨ hasB p ys = false) :
    Calls Tryz.prog 72 #[.int .u64 p, v, u] w (Ret (.tuple #[.int .u64 0, .int .i64 1]) w) := by
  have Hv := hid hv; have Hu := hid hu
  obtain ⟨a, cap, rfl, hc1, hc2, hc⟩ := hv
  obtain ⟨a', cap', rfl, hc1', hc2', hc'⟩ := hu
  clear hc hc'
  obtain ⟨n, hn⟩ : ∃ n, xs.length = n := ⟨_, rfl⟩
  obtain ⟨m, hm⟩ : ∃ m, ys.length = m := ⟨_, rfl⟩
  rw [hn, hm] at h
  rw [hn] at Hv hc1 ⊢
  rw [hm] at Hu hc1' ⊢
  clear hn hm
  have Hx := hid hx; have Hy := hid hy; clear hx hy
  by_cases hl : n = m
  · have t1 : ((n : Int) != (m : Int)) = false := by rw [hl]; simp
    by_cases h1 : hasB p xs = true
    · have h2 : hasB p ys = false := by
        rcases h with h | h | h
        · exact absurd hl h
        · rw [h1] at h; cases h
        · exact h
      have H1 := hid h1; have H2 := hid h2; clear h1 h2 hl h
      go_enter Tryz.func72, Tryz.ntmps72
      go_wp2_with (first
        | (go_at_call_of 30 a; refine (has_yes p _ _ _ Hv.out Hx.out H1.out).mono ?_; rintro e w' ⟨rfl, rfl⟩)
        | (go_at_call_of 30 a'; refine (has_no p _ _ _ hp0 hp Hu.out Hy.out H2.out).mono ?_; rintro e w' ⟨rfl, rfl⟩))
      go_ret2
      exact ⟨rfl, (by repeat (first | exact Ext.refl _ | assumption | refine Ext.drew ?_ | refine Ext.drewN ?_ _ | refine Ext.alloc ?_ _ | refine Ext.trans ?_ (by assumption)))⟩
    · have H1 := hid (Bool.eq_false_iff.2 h1); clear h1 hl h
      go_enter Tryz.func72, Tryz.ntmps72
      go_wp2_with (go_at_call 30; refine (has_no p _ _ _ hp0 hp Hv.out Hx.out H1.out).mono ?_; rintro e w' ⟨rfl, rfl⟩)
      go_ret2
      exact ⟨rfl, (by repeat (first | exact Ext.refl _ | assumption | refine Ext.drew ?_ | refine Ext.drewN ?_ _ | refine Ext.alloc ?_ _ | refine Ext.trans ?_ (by assumption)))⟩
  · have t1 : ((n : Int) != (m : Int)) = true := by simp; omega
    clear hl h
    go_enter Tryz.func72, Tryz.ntmps72
    go_wp2_with fail
    go_ret2
    exact ⟨rfl, (by repeat (first | exact Ext.refl _ | assumption | refine Ext.drew ?_ | refine Ext.drewN ?_ _ | refine Ext.alloc ?_ _ | refine Ext.trans ?_ (by assumption)))⟩

theorem div_as (p a b r : Int) (w : World) (hp : rightB p = true) (ha0 : 0 ≤ a) (ha : a < p) (hb0 : 0 ≤ b) (hb : b < p) (hub : unitB p b = true) (h : a * minv p b % p = r) :
    Calls Tryz.prog 115 #[.int .u64 p, .int .u64 a, .int .u64 b] w (Ret (.tuple #[.int .u64 r, .int .i64 0]) w) := h ▸ div_yes p a b w hp ha0 ha hb0 hb hub
theorem norm_as (p a r : Int) (w : World) (hp : rightB p = true) (ha0 : 0 ≤ a) (h : a % p = r) :
    Calls Tryz.prog 104 #[.int .u64 p, .int .u64 a] w (Ret (.tuple #[.int .u64 r, .int .i64 0]) w) := h ▸ norm_yes p a w hp ha0
theorem dot_as (p r : Int) (v u : Value) (xs ys : List Int) (w : World) (hv : Ints .u64 w v xs) (hu : Ints .u64 w u ys) (hx : U64s xs) (hy : U64s ys) (hl : xs.length = ys.length) (h1 : hasB p xs = true) (h2 : hasB p ys = true) (h : dotZ xs ys % p = r) :
    Calls Tryz.prog 72 #[.int .u64 p, v, u] w (Ret (.tuple #[.int .u64 r, .int .i64 0]) w) := h ▸ dot_yes p v u xs ys w hv hu hx hy hl h1 h2
theorem dotD_as (p r : Int) (v u : Value) (xs ys : List Int) (w : World) (hv : Ints .u64 w v xs) (hu : Ints .u64 w u ys) (hx : U64s xs) (hy : U64s ys) (hl : xs.length = ys.length) (h1 : hasB p xs = true) (h2 : hasB p ys = true) (h : dotZ xs ys % p = r) :
    Calls Tryz.prog 72 #[.int .u64 p, v, u] w (RetD (.tuple #[.int .u64 r, .int .i64 0]) w) := h ▸ dot_drw p v u xs ys w hv hu hx hy hl h1 h2
end Go.Proofs.YtijpeepdedfhoaaGreat
/- Pieces of slices, and dot products of pieces. -/
namespace Go.Proofs.YtijpeepdedfhoaaGreat
open Go.RowKit

/-- a piece of a slice, where neither end is out of it and its begin isn't its capacity's -/
theorem slice_run (b off len cap lo hi : Nat) (h1 : lo ≤ hi) (h2 : hi ≤ cap) (h3 : lo < cap) (w : World) :
    (Instr.slice 23 (.slice (some ⟨b, off, none⟩) len cap) (some (.int .i64 (lo : Int))) (some (.int .i64 (hi : Int))) none).run Tryz.prog w = .ok (.slice (some ⟨b, off + lo, none⟩) (hi - lo) (cap - lo)) w := by
  have hu : Tryz.prog.underlying 23 = some (.slice (Tryz.prog.elem 23)) := by kernel_rfl
  have hs : ((sizeOf (Tryz.prog.elem 23)).run Tryz.prog w) = .ok 1 w := by kernel_rfl
  rw [run_slice_lh w 23 _ len cap hu .i64 .i64 lo hi (by omega) (by omega) (by omega), hs]
  simp only [Result.andThen, sliced, Int.toNat_natCast]
  rw [if_neg (by omega)]
  simp [Go.WideShapes.add_plain]
theorem slice_run' (b off len cap lo hi : Nat) (h1 : lo ≤ hi) (h2 : hi ≤ cap) (h3 : lo < cap) (w : World) :
    (Instr.sliceAt 23 (.slice (some ⟨b, off, none⟩) len cap) (some (.int .i64 (lo : Int))) (some (.int .i64 (hi : Int))) none).run Tryz.prog w = .ok (.slice (some ⟨b, off + lo, none⟩) (hi - lo) (cap - lo)) w := by
  have hu : Tryz.prog.underlying 23 = some (.slice (Tryz.prog.elem 23)) := by kernel_rfl
  rw [run_sliceAt_slice w 23 _ _ _ _ hu]
  exact slice_run b off len cap lo hi h1 h2 h3 w
theorem Ints.sub {k : IntKind} {w : World} {b off m cap : Nat} {xs : List Int} (h : Ints k w (.slice (some ⟨b, off, none⟩) m cap) xs) (lo n : Nat) (hn : lo + n ≤ xs.length) (h0 : 0 < n) :
    Ints k w (.slice (some ⟨b, off + lo, none⟩) n (cap - lo)) ((xs.drop lo).take n) := by
  obtain ⟨a, cap', e, h1, h2, h3⟩ := h
  injection e with e1 e2 e3
  subst e1; subst e3
  obtain ⟨b', off', ha, hb, hc⟩ := h3 (by omega)
  injection ha with ha
  injection ha with e4 e5
  subst e4; subst e5
  have hl : ((xs.drop lo).take n).length = n := by simp; omega
  refine ⟨_, cap - lo, by rw [hl], by omega, by omega, fun _ => ⟨b, off + lo, rfl, hb, fun j hj => ?_⟩⟩
  rw [Nat.add_assoc, hc (lo + j) (by omega)]
  simp [List.getD, show j < n by omega]

theorem sub_get (xs : List Int) (lo n j : Nat) (hj : j < n) : ((xs.drop lo).take n).getD j 0 = xs.getD (lo + j) 0 := by
  simp [List.getD, hj]
theorem dotZ_sm : ∀ xs ys : List Int, xs.length = ys.length → dotZ xs ys = sm xs.length fun i => xs.getD i 0 * ys.getD i 0
  | [], [], _ => rfl
  | [], _ :: _, h => by simp at h
  | _ :: _, [], h => by simp at h
  | x :: xs, y :: ys, h => by
    rw [List.length_cons, sm_head, dotZ, dotZ_sm xs ys (by simpa using h)]
    simp
end Go.Proofs.YtijpeepdedfhoaaGreat
/- Matrices as rows of numbers: places, sums of sums, products (in plain Lean; nothing of a program). -/
namespace Go.Proofs.YtijpeepdedfhoaaGreat
variable {p : Int}

/-- the numbers f 0, f 1 and so on, n of them -/
def tab (n : Nat) (f : Nat → Int) : List Int := (List.range n).map f
theorem tab_len (n : Nat) (f : Nat → Int) : (tab n f).length = n := by simp [tab]
theorem tab_get {n k : Nat} (f : Nat → Int) (h : k < n) : (tab n f).getD k 0 = f k := by simp [tab, List.getD, h]
theorem tab_succ (n : Nat) (f : Nat → Int) : tab (n + 1) f = tab n f ++ [f n] := by simp [tab, List.range_succ]
theorem tab_congr {n : Nat} {f g : Nat → Int} (h : ∀ k, k < n → f k = g k) : tab n f = tab n g := by
  unfold tab
  exact List.map_congr_left fun k hk => h k (List.mem_range.1 hk)
theorem tab_of {n : Nat} {l : List Int} {f : Nat → Int} (hl : l.length = n) (h : ∀ k, k < n → l.getD k 0 = f k) : l = tab n f :=
  list_ext (by rw [hl, tab_len]) fun k hk => by rw [tab_get f (by omega), h k (by omega)]
theorem tab_self (l : List Int) : tab l.length (fun k => l.getD k 0) = l := (tab_of rfl fun _ _ => rfl).symm
theorem tab_rng {n : Nat} {f : Nat → Int} (h : ∀ k, k < n → 0 ≤ f k ∧ f k < p) : Rng p (tab n f) := Rng.of_get fun k hk => by
  rw [tab_len] at hk
  rw [tab_get f hk]; exact h k hk
/-- a cell's place -/
theorem at_div {c i k : Nat} (h : k < c) : (i * c + k) / c = i := by
  rw [Nat.add_comm, Nat.add_mul_div_right _ _ (by omega), Nat.div_eq_of_lt h, Nat.zero_add]
theorem at_mod {c i k : Nat} (h : k < c) : (i * c + k) % c = k := by
  rw [Nat.add_comm, Nat.add_mul_mod_self_right, Nat.mod_eq_of_lt h]
theorem at_lt {r c i k : Nat} (hi : i < r) (hk : k < c) : i * c + k < r * c := by
  have := Nat.mul_le_mul_right c (show i + 1 ≤ r by omega)
  rw [Nat.add_mul] at this
  omega
theorem lt_div {r c t : Nat} (h : t < r * c) : t / c < r := Nat.div_lt_of_lt_mul (by rw [Nat.mul_comm]; exact h)
theorem lt_mod {r c t : Nat} (h : t < r * c) : t % c < c := Nat.mod_lt _ (by
  rcases Nat.eq_zero_or_pos c with h0 | h0
  · rw [h0] at h; simp at h
  · exact h0)
/-- a matrix of r rows, c columns, by its cells -/
def grid (r c : Nat) (M : Nat → Nat → Int) : List Int := tab (r * c) fun t => M (t / c) (t % c)
theorem grid_len (r c : Nat) (M : Nat → Nat → Int) : (grid r c M).length = r * c := tab_len _ _
theorem grid_get {r c i k : Nat} (M : Nat → Nat → Int) (hi : i < r) (hk : k < c) : (grid r c M).getD (i * c + k) 0 = M i k := by
  unfold grid
  rw [tab_get _ (at_lt hi hk), at_div hk, at_mod hk]
theorem grid_congr {r c : Nat} {M N : Nat → Nat → Int} (h : ∀ i k, i < r → k < c → M i k = N i k) : grid r c M = grid r c N :=
  tab_congr fun _ ht => h _ _ (lt_div ht) (lt_mod ht)
theorem grid_of {r c : Nat} {l : List Int} {M : Nat → Nat → Int} (hl : l.length = r * c) (h : ∀ i k, i < r → k < c → l.getD (i * c + k) 0 = M i k) : l = grid r c M :=
  tab_of hl fun t ht => by
    have := h (t / c) (t % c) (lt_div ht) (lt_mod ht)
    rw [Nat.mul_comm, Nat.div_add_mod] at this
    exact this
theorem grid_self {r c : Nat} {l : List Int} (hl : l.length = r * c) : grid r c (fun i k => l.getD (i * c + k) 0) = l := (grid_of hl fun _ _ _ _ => rfl).symm
theorem grid_rng {r c : Nat} {M : Nat → Nat → Int} (h : ∀ i k, i < r → k < c → 0 ≤ M i k ∧ M i k < p) : Rng p (grid r c M) :=
  tab_rng fun _ ht => h _ _ (lt_div ht) (lt_mod ht)

/-! ### Sums of sums -/
theorem sm_comm (f : Nat → Nat → Int) : ∀ m n : Nat, sm m (fun i => sm n fun j => f i j) = sm n fun j => sm m fun i => f i j
  | 0, n => by
    exact (sm_zero fun _ _ => rfl).symm
  | m + 1, n => by
    show sm m (fun i => sm n fun j => f i j) + sm n (fun j => f m j) = _
    rw [sm_comm f m n, ← sm_add]
    rfl
theorem sm_single {n i : Nat} (g : Nat → Int) (h : i < n) : sm n (fun k => if k = i then g k else 0) = g i := by
  rw [sm_piece i 1 (by omega) (fun k hk => if_neg (by omega)) (fun k h1 h2 => if_neg (by omega))]
  simp [sm]
/-- what a row of numbers and another one make -/
def dv (p : Int) (n : Nat) (a x : Nat → Int) : Int := (sm n fun k => a k * x k) % p
theorem dv_congr {n : Nat} {a b x y : Nat → Int} (h : ∀ k, k < n → a k = b k) (h' : ∀ k, k < n → x k = y k) : dv p n a x = dv p n b y := by
  unfold dv; rw [sm_congr fun k hk => by rw [h k hk, h' k hk]]
theorem dv_comm (n : Nat) (a x : Nat → Int) : dv p n a x = dv p n x a := by
  unfold dv; rw [sm_congr fun k _ => Int.mul_comm (a k) (x k)]
theorem dv_range (hp : 2 ≤ p) (n : Nat) (a x : Nat → Int) : 0 ≤ dv p n a x ∧ dv p n a x < p := mod_range _ hp
theorem dv_zero (a x : Nat → Int) : dv p 0 a x = 0 := by simp [dv, sm]
theorem dv_succ (k : Nat) (a x : Nat → Int) : dv p (k + 1) a x = (dv p k a x + a k * x k % p) % p := by
  unfold dv
  rw [ma_l, ma_r]; rfl
theorem dv_assoc (n m : Nat) (a x : Nat → Int) (b : Nat → Nat → Int) : dv p n a (fun k => dv p m (b k) x) = dv p m (fun j => dv p n a fun k => b k j) x := by
  have e1 : dv p n a (fun k => dv p m (b k) x) = (sm n fun k => sm m fun j => a k * (b k j * x j)) % p := by
    unfold dv
    exact sm_mod fun k _ => by rw [mm_r, sm_mul]
  have e2 : dv p m (fun j => dv p n a fun k => b k j) x = (sm m fun j => sm n fun k => a k * (b k j * x j)) % p := by
    unfold dv
    refine sm_mod fun j _ => ?_
    rw [mm_l, ← sm_mul_r]
    rw [sm_congr fun k _ => Int.mul_assoc (a k) (b k j) (x j)]
  rw [e1, e2, sm_comm]
theorem dv_one {n i : Nat} (x : Nat → Int) (h : i < n) : dv p n (fun k => if k = i then 1 else 0) x = x i % p := by
  unfold dv
  rw [sm_congr (g := fun k => if k = i then x k else 0) fun k _ => by
    show (if k = i then 1 else 0) * x k = if k = i then x k else 0
    by_cases e : k = i
    · rw [if_pos e, if_pos e, Int.one_mul]
    · rw [if_neg e, if_neg e, Int.zero_mul], sm_single x h]
theorem dv_dotZ {xs ys : List Int} {n : Nat} (h : xs.length = n) (h' : ys.length = n) : dotZ xs ys % p = dv p n (fun k => xs.getD k 0) fun k => ys.getD k 0 := by
  rw [dotZ_sm xs ys (by omega), h]; rfl
end Go.Proofs.YtijpeepdedfhoaaGreat
/- What the document's own answers for layer 1 are. -/
namespace Go.Proofs.YtijpeepdedfhoaaGreat
open Go.RowKit

set_option maxHeartbeats 400000 in
theorem rRight (p : Int) (w : World) (h0 : 0 ≤ p) (h1 : p ≤ 18446744073709551615) :
    Calls Tryz.prog 37 #[.int .u64 p] w fun e w' => e = .returned (.bool (rightB p)) ∧ w = w' := by
  by_cases h : 1 < p
  · by_cases h' : p ≤ 9223372036854775807
    all_goals
      go_enter Tryz.func37, Tryz.ntmps37
      go_wp2
      go_ret
      exact ⟨ret_bool (by simp [rightB]; omega), rfl⟩
  · go_enter Tryz.func37, Tryz.ntmps37
    go_wp2
    go_ret
    exact ⟨ret_bool (by simp [rightB]; omega), rfl⟩

set_option maxHeartbeats 400000 in
theorem rHas (p : Int) (v : Value) (xs : List Int) (w : World) (h0 : 0 ≤ p) (h1 : p ≤ 18446744073709551615) (hv : Ints .u64 w v xs) (hx : U64s xs) :
    Calls Tryz.prog 11 #[.int .u64 p, v] w fun e w' => e = .returned (.bool (hasB p xs)) ∧ w = w' := by
  obtain ⟨a, cap, rfl, hc1, hc2, hc⟩ := hv
  have Hc := hid hc; clear hc
  have Hx := hid hx; clear hx
  go_enter Tryz.func11, Tryz.ntmps11
  go_wp2_with fail
  go_loop [5] (fun i => ∃ k : Nat, k ≤ xs.length ∧ i = .int .i64 k ∧ ∀ j, j < k → xs.getD j 0 < p) (fun i => xs.length - (intOf i).toNat)
  case atStart => exact ⟨0, Nat.zero_le _, rfl, by simp⟩
  case round =>
    obtain ⟨k, hk, rfl, hall⟩ := hrel
    have Ha := hid hall; clear hall
    by_cases hlt : k < xs.length
    · obtain ⟨b, off, rfl, hb, hcell⟩ := Hc.out (by omega)
      have g := hcell k hlt
      have hg := U64s.get Hx.out hlt
      clear hcell
      have hn := hasB_no (p := p) k hlt
      generalize hxk : xs.getD k 0 = x at g hg hn
      have Hxk := hid hxk; clear hxk
      have Hn := hid hn; clear hn Hc
      by_cases hp : p ≤ x
      · replace Hn := hid (Hn.out hp)
        go_wp2_with fail
        go_ret
        exact ⟨ret_bool (by rw [Hn.out]), rfl⟩
      · go_wp2_with fail
        go_round
        case rel => exact ⟨k + 1, by omega, by go_num, fun j hj => by
          by_cases e : j = k
          · rw [e, Hxk.out]; omega
          · exact Ha.out j (by omega)⟩
        case measure => simp [intOf]; omega
    · have hall : ∀ x ∈ xs, x < p := by
        intro x hx
        obtain ⟨j, hj, rfl⟩ := List.mem_iff_getElem.1 hx
        have := Ha.out j (by omega)
        simpa [List.getD, List.getElem?_eq_getElem hj] using this
      have e : hasB p xs = rightB p := by
        unfold hasB
        rw [List.all_eq_true.2 (fun x hx => by simpa using hall x hx), Bool.and_true]
      have He := hid e; clear e hall
      go_wp2_with (go_at_call 37; refine (rRight _ _ h0 h1).mono ?_; rintro e w' ⟨rfl, rfl⟩)
      go_ret
      exact ⟨ret_bool He.out.symm, rfl⟩

set_option maxHeartbeats 400000 in
theorem rSub (p a b r : Int) (w : World) (hp : rightB p = true) (ha0 : 0 ≤ a) (ha : a < p) (hb0 : 0 ≤ b) (hb : b < p) (h : (a - b) % p = r) :
    Calls Tryz.prog 64 #[.int .u64 p, .int .u64 a, .int .u64 b] w fun e w' => e = .returned (.int .u64 r) ∧ w = w' := by
  have hp2 := rightB_true hp
  have hp3 : p ≠ 0 := by omega
  have H := hid h
  clear h hp
  go_enter Tryz.func64, Tryz.ntmps64
  go_wp2_with fail
  go_ret
  exact ⟨ret_int (by rw [← H.out, show a + p - b = a - b + p by omega, Int.add_emod_right]), rfl⟩

theorem half_even {p a b h : Int} (hh : a * (b / 2) % p = h) (hb : b % 2 = 0) : (h + h) % p = a * b % p := by
  rw [← hh, ma_l, ma_r]
  congr 1
  have : b = b / 2 * 2 := by omega
  generalize b / 2 = c at *
  subst this; grind
theorem half_odd {p a b h g : Int} (hh : a * (b / 2) % p = h) (hg : (h + h) % p = g) (hb : b % 2 = 1) : (g + a) % p = a * b % p := by
  rw [← hg, ← hh, ma_l]
  have : b = b / 2 * 2 + 1 := by omega
  generalize b / 2 = c at *
  rw [mod_eq_iff]
  have e := Int.emod_def (a * c) p
  refine ⟨-2 * (a * c / p), ?_⟩
  rw [e, this]; grind



theorem sub_mul_le (l n : Int) (hn : 0 < n) (hl : 0 ≤ l) : 0 ≤ l / n * n ∧ l / n * n ≤ l ∧ l - l / n * n = l % n := by
  have h1 := Int.ediv_mul_add_emod l n
  have h2 := Int.emod_nonneg l (show n ≠ 0 by omega)
  have h3 := Int.mul_nonneg (Int.ediv_nonneg hl (by omega) : 0 ≤ l / n) (show 0 ≤ n by omega)
  omega
theorem unitB_gcd {p a : Int} (h : unitB p a = true) : ((Int.gcd p a : Nat) : Int) = 1 := by
  have : Int.gcd p a = 1 := by simpa [unitB] using h
  omega
theorem unitB_gcd' {p a : Int} (h : unitB p a = false) : (((Int.gcd p a : Nat) : Int) == 1) = false := by
  have : ¬ Int.gcd p a = 1 := by simpa [unitB] using h
  simp; omega

end Go.Proofs.YtijpeepdedfhoaaGreat
/- Products of matrices and vectors as lists: the laws of layer 5 in plain Lean; nothing of a program. -/
namespace Go.Proofs.YtijpeepdedfhoaaGreat
variable {p : Int}

def timesL (p : Int) (m n : Nat) (xs ys : List Int) : List Int := tab m fun i => dv p n (fun k => xs.getD (i * n + k) 0) fun k => ys.getD k 0
def leftL (p : Int) (m n : Nat) (xs ys : List Int) : List Int := tab n fun k => dv p m (fun i => xs.getD (i * n + k) 0) fun i => ys.getD i 0
def mulL (p : Int) (m n q : Nat) (xs ys : List Int) : List Int := grid m q fun i k => dv p n (fun j => xs.getD (i * n + j) 0) fun j => ys.getD (j * q + k) 0
def turnL (m n : Nat) (xs : List Int) : List Int := grid n m fun k i => xs.getD (i * n + k) 0
def oneL (n : Nat) : List Int := grid n n fun i k => if i = k then 1 else 0
def pickL (n : Nat) (xs : List Int) (rows cols : List Nat) : List Int := grid rows.length cols.length fun i k => xs.getD (rows.getD i 0 * n + cols.getD k 0) 0
theorem timesL_len (m n : Nat) (xs ys : List Int) : (timesL p m n xs ys).length = m := tab_len _ _
theorem leftL_len (m n : Nat) (xs ys : List Int) : (leftL p m n xs ys).length = n := tab_len _ _
theorem mulL_len (m n q : Nat) (xs ys : List Int) : (mulL p m n q xs ys).length = m * q := grid_len _ _ _
theorem turnL_len (m n : Nat) (xs : List Int) : (turnL m n xs).length = n * m := grid_len _ _ _
theorem oneL_len (n : Nat) : (oneL n).length = n * n := grid_len _ _ _
theorem timesL_rng (hp : 2 ≤ p) (m n : Nat) (xs ys : List Int) : Rng p (timesL p m n xs ys) := tab_rng fun _ _ => dv_range hp _ _ _
theorem leftL_rng (hp : 2 ≤ p) (m n : Nat) (xs ys : List Int) : Rng p (leftL p m n xs ys) := tab_rng fun _ _ => dv_range hp _ _ _
theorem mulL_rng (hp : 2 ≤ p) (m n q : Nat) (xs ys : List Int) : Rng p (mulL p m n q xs ys) := grid_rng fun _ _ _ _ => dv_range hp _ _ _
theorem turnL_rng (hp : 2 ≤ p) {xs : List Int} (h : Rng p xs) (m n : Nat) : Rng p (turnL m n xs) := grid_rng fun _ _ _ _ => h.getD hp _
theorem oneL_rng (hp : 2 ≤ p) (n : Nat) : Rng p (oneL n) := grid_rng fun _ _ _ _ => by split <;> omega

/-- a product times a vector -/
theorem times_mul (m n q : Nat) (xs ys zs : List Int) : timesL p m n xs (timesL p n q ys zs) = timesL p m q (mulL p m n q xs ys) zs := by
  unfold timesL
  refine tab_congr fun i hi => ?_
  rw [dv_congr (fun _ _ => rfl) fun k hk => tab_get _ hk, dv_assoc]
  exact dv_congr (fun j hj => by rw [mulL, grid_get _ hi hj]) fun _ _ => rfl
/-- a vector times a product -/
theorem left_mul (m n q : Nat) (xs ys zs : List Int) : leftL p n q ys (leftL p m n xs zs) = leftL p m q (mulL p m n q xs ys) zs := by
  unfold leftL
  refine tab_congr fun k hk => ?_
  rw [dv_congr (fun _ _ => rfl) fun j hj => tab_get _ hj, dv_assoc]
  refine dv_congr (fun i hi => ?_) fun _ _ => rfl
  rw [mulL, grid_get _ hi hk, dv_comm]
/-- turned, a product is the turned ones', the other way round -/
theorem turn_mul (m n q : Nat) (xs ys : List Int) : turnL m q (mulL p m n q xs ys) = mulL p q n m (turnL n q ys) (turnL m n xs) := by
  unfold turnL
  rw [mulL, mulL]
  refine grid_congr fun k i hk hi => ?_
  rw [grid_get _ hi hk, dv_comm]
  exact dv_congr (fun j hj => by rw [grid_get _ hk hj]) fun j hj => by rw [grid_get _ hj hi]
theorem turn_turn {m n : Nat} {xs : List Int} (h : xs.length = m * n) : turnL n m (turnL m n xs) = xs := by
  unfold turnL
  rw [grid_congr (N := fun i k => xs.getD (i * n + k) 0) fun i k hi hk => grid_get _ hk hi, grid_self h]
theorem one_mul {m n : Nat} {xs : List Int} (h : xs.length = m * n) (hr : Rng p xs) : mulL p m m n (oneL m) xs = xs := by
  unfold mulL
  refine Eq.trans (grid_congr fun i k hi hk => ?_) (grid_self h)
  rw [dv_congr (b := fun j => if j = i then 1 else 0) (fun j hj => by
    rw [oneL, grid_get _ hi hj]
    by_cases e : j = i
    · rw [if_pos e, if_pos e.symm]
    · rw [if_neg e, if_neg fun h => e h.symm]) (fun _ _ => rfl), dv_one _ hi]
  exact mod_small (hr.get (by rw [h]; exact at_lt hi hk)).1 (hr.get (by rw [h]; exact at_lt hi hk)).2
theorem mul_one {m n : Nat} {xs : List Int} (h : xs.length = m * n) (hr : Rng p xs) : mulL p m n n xs (oneL n) = xs := by
  unfold mulL
  refine Eq.trans (grid_congr fun i k hi hk => ?_) (grid_self h)
  rw [dv_comm, dv_congr (b := fun j => if j = k then 1 else 0) (fun j hj => by rw [oneL, grid_get _ hj hk]) (fun _ _ => rfl), dv_one _ hk]
  exact mod_small (hr.get (by rw [h]; exact at_lt hi hk)).1 (hr.get (by rw [h]; exact at_lt hi hk)).2
/-- y (M x) is (y M) x -/
theorem dot_mul (m n : Nat) (xs ys zs : List Int) : dv p m (fun i => ys.getD i 0) (fun i => (timesL p m n xs zs).getD i 0) = dv p n (fun k => (leftL p m n xs ys).getD k 0) fun k => zs.getD k 0 := by
  unfold timesL
  rw [dv_congr (fun _ _ => rfl) fun i hi => tab_get _ hi, dv_assoc]
  refine dv_congr (fun k hk => ?_) fun _ _ => rfl
  rw [leftL, tab_get _ hk, dv_comm]
/-- picked rows and columns of a product -/
theorem pick_mul {m n q : Nat} {xs ys : List Int} {rows cols : List Nat} (hr : ∀ i, i < rows.length → rows.getD i 0 < m) (hc : ∀ k, k < cols.length → cols.getD k 0 < q) :
    mulL p rows.length n cols.length (pickL n xs rows (List.range n)) (pickL q ys (List.range n) cols) = pickL q (mulL p m n q xs ys) rows cols := by
  have hl : (List.range n).length = n := List.length_range
  have hg : ∀ j, j < n → (List.range n).getD j 0 = j := fun j hj => by simp [List.getD, hj]
  unfold pickL
  rw [mulL, hl]
  refine grid_congr fun i k hi hk => ?_
  rw [mulL, grid_get _ (hr i hi) (hc k hk)]
  exact dv_congr (fun j hj => by rw [grid_get _ hi hj, hg j hj]) fun j hj => by rw [grid_get _ hj hk, hg j hj]
/-- a vector that is 1 at one place takes out a row .. -/
theorem left_unit {m n i : Nat} {xs us : List Int} (hr : Rng p xs) (hp : 2 ≤ p) (hi : i < m) (hu : ∀ j, j < m → us.getD j 0 = if j = i then 1 else 0) : leftL p m n xs us = tab n fun k => xs.getD (i * n + k) 0 := by
  unfold leftL
  refine tab_congr fun k hk => ?_
  rw [dv_comm, dv_congr (b := fun j => if j = i then 1 else 0) (fun j hj => hu j hj) (fun _ _ => rfl), dv_one _ hi]
  exact mod_small (hr.getD hp _).1 (hr.getD hp _).2
/-- .. or a column -/
theorem times_unit {m n k : Nat} {xs us : List Int} (hr : Rng p xs) (hp : 2 ≤ p) (hk : k < n) (hu : ∀ j, j < n → us.getD j 0 = if j = k then 1 else 0) : timesL p m n xs us = tab m fun i => xs.getD (i * n + k) 0 := by
  unfold timesL
  refine tab_congr fun i hi => ?_
  rw [dv_comm, dv_congr (b := fun j => if j = k then 1 else 0) (fun j hj => hu j hj) (fun _ _ => rfl), dv_one _ hk]
  exact mod_small (hr.getD hp _).1 (hr.getD hp _).2
end Go.Proofs.YtijpeepdedfhoaaGreat
/- Orders: lists of the numbers from 0 on, each once; their signs, and what they do one behind the other (in plain Lean; nothing of a program). -/
namespace Go.Proofs.YtijpeepdedfhoaaGreat

/-- lists without repetition, held against one another -/
theorem nodup_sub {l r : List Int} (hl : l.Nodup) (hs : ∀ x ∈ l, x ∈ r) (hn : r.length ≤ l.length) : l.Perm r := by
  induction l generalizing r with
  | nil => cases r with
    | nil => exact List.Perm.refl _
    | cons a r => simp at hn
  | cons a l ih =>
    have ha := hs a (List.mem_cons_self ..)
    have hp := List.perm_cons_erase ha
    have hlen := hp.length_eq
    simp only [List.length_cons] at hlen hn
    obtain ⟨h1, h2⟩ := List.nodup_cons.1 hl
    refine (List.Perm.cons a (ih h2 (fun x hx => ?_) (by omega))).trans hp.symm
    exact (List.mem_erase_of_ne (fun e => h1 (by subst e; exact hx))).2 (hs x (List.mem_cons_of_mem _ hx))
theorem nodup_len {l r : List Int} (hl : l.Nodup) (hs : ∀ x ∈ l, x ∈ r) : l.length ≤ r.length := by
  induction l generalizing r with
  | nil => simp
  | cons a l ih =>
    have ha := hs a (List.mem_cons_self ..)
    have hlen := (List.perm_cons_erase ha).length_eq
    simp only [List.length_cons] at hlen ⊢
    obtain ⟨h1, h2⟩ := List.nodup_cons.1 hl
    have := ih h2 (r := r.erase a) fun x hx => (List.mem_erase_of_ne (fun e => h1 (by subst e; exact hx))).2 (hs x (List.mem_cons_of_mem _ hx))
    omega
/-- the numbers from 0 on, so many -/
def upL (n : Nat) : List Int := tab n fun k => (k : Int)
theorem upL_len (n : Nat) : (upL n).length = n := tab_len _ _
theorem upL_mem {n : Nat} {x : Int} : x ∈ upL n ↔ 0 ≤ x ∧ x < n := by
  simp only [upL, tab, List.mem_map, List.mem_range]
  exact ⟨fun ⟨k, h1, h2⟩ => by omega, fun ⟨h1, h2⟩ => ⟨x.toNat, by omega, by omega⟩⟩
theorem upL_nodup (n : Nat) : (upL n).Nodup := by
  unfold upL tab List.Nodup
  rw [List.pairwise_map]
  exact List.nodup_range.imp fun h => by omega
theorem upL_get {n k : Nat} (h : k < n) : (upL n).getD k 0 = k := tab_get _ h

/-- an order of n -/
structure Ord (n : Nat) (p : List Int) : Prop where
  len : p.length = n
  has : ∀ k : Nat, k < n → (k : Int) ∈ p
theorem Ord.perm {n : Nat} {p : List Int} (h : Ord n p) : (upL n).Perm p :=
  nodup_sub (upL_nodup n) (fun x hx => by
    obtain ⟨h1, h2⟩ := upL_mem.1 hx
    have := h.has x.toNat (by omega)
    rwa [Int.toNat_of_nonneg h1] at this) (by rw [h.len, upL_len]; omega)
theorem Ord.of_perm {n : Nat} {p : List Int} (h : (upL n).Perm p) : Ord n p :=
  ⟨by rw [← h.length_eq, upL_len], fun k hk => h.mem_iff.1 (upL_mem.2 (by omega))⟩
theorem Ord.nodup {n : Nat} {p : List Int} (h : Ord n p) : p.Nodup := h.perm.nodup_iff.1 (upL_nodup n)
theorem Ord.mem {n : Nat} {p : List Int} (h : Ord n p) {x : Int} (hx : x ∈ p) : 0 ≤ x ∧ x < n := upL_mem.1 (h.perm.mem_iff.2 hx)
theorem get_mem0 {p : List Int} {k : Nat} (h : k < p.length) : p.getD k 0 ∈ p := by
  rw [List.getD, List.getElem?_eq_getElem h]; exact List.getElem_mem h
theorem Ord.get {n : Nat} {p : List Int} (h : Ord n p) {k : Nat} (hk : k < n) : 0 ≤ p.getD k 0 ∧ p.getD k 0 < n := h.mem (get_mem0 (by rw [h.len]; exact hk))
theorem Ord.inj {n : Nat} {p : List Int} (h : Ord n p) {i k : Nat} (hi : i < n) (hk : k < n) (e : p.getD i 0 = p.getD k 0) : i = k := by
  have hn := h.nodup
  have li : i < p.length := by rw [h.len]; exact hi
  have lk : k < p.length := by rw [h.len]; exact hk
  rw [List.getD, List.getD, List.getElem?_eq_getElem li, List.getElem?_eq_getElem lk] at e
  have hp := List.pairwise_iff_getElem.1 hn
  rcases Nat.lt_trichotomy i k with c | c | c
  · exact absurd e (hp i k li lk c)
  · exact c
  · exact absurd e.symm (hp k i lk li c)
theorem Ord.find {n : Nat} {p : List Int} (h : Ord n p) {k : Nat} (hk : k < n) : ∃ i, i < n ∧ p.getD i 0 = k := by
  obtain ⟨i, hi, e⟩ := List.getElem_of_mem (h.has k hk)
  exact ⟨i, by rw [← h.len]; exact hi, by rw [List.getD, List.getElem?_eq_getElem hi]; exact e⟩
theorem Ord.up (n : Nat) : Ord n (upL n) := ⟨upL_len n, fun k hk => upL_mem.2 (by omega)⟩

/-! ### the sign -/
/-- how many are less -/
def cntL (a : Int) (l : List Int) : Nat := l.countP fun x => decide (x < a)
/-- the pairs that stand the wrong way round -/
def invL : List Int → Nat
  | [] => 0
  | a :: l => cntL a l + invL l
theorem cntL_cons (a x : Int) (l : List Int) : cntL a (x :: l) = cntL a l + if x < a then 1 else 0 := by
  unfold cntL; rw [List.countP_cons]; simp
theorem cntL_perm (a : Int) {l r : List Int} (h : l.Perm r) : cntL a l = cntL a r := h.countP_eq _
theorem cntL_append (a : Int) (l r : List Int) : cntL a (l ++ r) = cntL a l + cntL a r := List.countP_append
/-- an order's numbers, put through what keeps them apart: the pairs turn alike -/
theorem inv_map (f : Int → Int) {l r : List Int} (h : l.Perm r) (hl : l.Nodup) (hf : ∀ x ∈ l, ∀ y ∈ l, f x = f y → x = y) :
    (invL (l.map f) + invL l) % 2 = (invL (r.map f) + invL r) % 2 := by
  induction h with
  | nil => rfl
  | cons x h ih =>
    rename_i l1 l2
    have e1 := cntL_perm x h
    have e2 := cntL_perm (f x) (h.map f)
    have := ih (List.nodup_cons.1 hl).2 fun a ha b hb => hf a (List.mem_cons_of_mem _ ha) b (List.mem_cons_of_mem _ hb)
    simp only [List.map_cons, invL]
    omega
  | swap x y l =>
    have hne : x ≠ y := fun e => by
      subst e
      exact (List.nodup_cons.1 hl).1 (List.mem_cons_self ..)
    have hfe : f x ≠ f y := fun e => hne (hf _ (by simp) _ (by simp) e)
    simp only [List.map_cons, invL, cntL_cons]
    rcases Int.lt_or_gt_of_ne hne with h1 | h1 <;> rcases Int.lt_or_gt_of_ne hfe with h2 | h2 <;>
      simp only [h1, h2, if_true, if_neg (Int.not_lt.2 (Int.le_of_lt h1)), if_neg (Int.not_lt.2 (Int.le_of_lt h2))] <;> omega
  | trans h1 h2 ih1 ih2 =>
    rename_i l1 l2 l3
    rw [ih1 hl hf, ih2 (h1.nodup_iff.1 hl) fun a ha b hb => hf a (h1.mem_iff.2 ha) b (h1.mem_iff.2 hb)]
theorem inv_sorted {l : List Int} (h : l.Pairwise fun a b => a ≤ b) : invL l = 0 := by
  induction l with
  | nil => rfl
  | cons a l ih =>
    obtain ⟨h1, h2⟩ := List.pairwise_cons.1 h
    have : cntL a l = 0 := by
      unfold cntL
      rw [List.countP_eq_zero]
      intro b hb
      have := h1 b hb
      simp; omega
    rw [invL, ih h2, this]
theorem inv_up (n : Nat) : invL (upL n) = 0 := inv_sorted (by
  unfold upL tab
  rw [List.pairwise_map]
  exact (List.pairwise_lt_range).imp fun h => by omega)
/-- the sign -/
def sgnL (l : List Int) : Int := if invL l % 2 = 0 then 1 else -1
theorem sgn_or (l : List Int) : sgnL l = 1 ∨ sgnL l = -1 := by unfold sgnL; split <;> simp
theorem sgn_mul {a b c : List Int} (h : (invL a + invL b) % 2 = invL c % 2) : sgnL c = sgnL a * sgnL b := by
  unfold sgnL
  rcases Nat.mod_two_eq_zero_or_one (invL a) with h1 | h1 <;> rcases Nat.mod_two_eq_zero_or_one (invL b) with h2 | h2 <;>
    rw [show invL c % 2 = (invL a % 2 + invL b % 2) % 2 by omega] <;> simp [h1, h2]
theorem sgn_turn {a b : List Int} (h : (invL a + 1) % 2 = invL b % 2) : sgnL b ≠ sgnL a := by
  unfold sgnL
  rcases Nat.mod_two_eq_zero_or_one (invL a) with h1 | h1 <;> rw [show invL b % 2 = (invL a % 2 + 1) % 2 by omega] <;> simp [h1]
/-- a number that is carried along a row -/
theorem inv_carry (m : List Int) (b : Int) (l : List Int) (h : b ∉ m) : invL (m ++ b :: l) % 2 = (invL (b :: (m ++ l)) + m.length) % 2 := by
  induction m with
  | nil => simp
  | cons x m ih =>
    have hx : b ≠ x := fun e => h (by rw [e]; exact List.mem_cons_self ..)
    have := ih fun k => h (List.mem_cons_of_mem _ k)
    have e1 : cntL x (m ++ b :: l) = cntL x (m ++ l) + if b < x then 1 else 0 := by rw [cntL_append, cntL_cons, cntL_append]; omega
    simp only [List.cons_append, invL, cntL_cons, e1, List.length_cons] at this ⊢
    rcases Int.lt_or_gt_of_ne hx with h1 | h1 <;> simp only [h1, if_true, if_neg (Int.not_lt.2 (Int.le_of_lt h1))] <;> omega
/-- two numbers that are changed turn the sign -/
theorem inv_swap (l1 m l2 : List Int) (a b : Int) (h : (l1 ++ a :: m ++ b :: l2).Nodup) : (invL (l1 ++ a :: m ++ b :: l2) + 1) % 2 = invL (l1 ++ b :: m ++ a :: l2) % 2 := by
  induction l1 with
  | nil =>
    simp only [List.nil_append] at h ⊢
    have hb : b ∉ a :: m := fun k => (List.nodup_append.1 h).2.2 b k b (List.mem_cons_self ..) rfl
    have ha : a ∉ m := (List.nodup_cons.1 (List.nodup_append.1 h).1).1
    have hab : a ≠ b := fun e => hb (by rw [e]; exact List.mem_cons_self ..)
    have ham : a ∉ b :: m := fun k => by
      rcases List.mem_cons.1 k with k | k
      · exact hab k
      · exact ha k
    have h1 := inv_carry (a :: m) b l2 hb
    have h2 := inv_carry (b :: m) a l2 ham
    simp only [List.cons_append, invL, cntL_cons, List.length_cons] at h1 h2 ⊢
    rcases Int.lt_or_gt_of_ne hab with k | k <;> simp only [k, if_true, if_neg (Int.not_lt.2 (Int.le_of_lt k))] at h1 h2 ⊢ <;> omega
  | cons x l1 ih =>
    simp only [List.cons_append] at h ⊢
    have := ih (List.nodup_cons.1 h).2
    simp only [invL] at this ⊢
    have hp : (l1 ++ a :: m ++ b :: l2).Perm (l1 ++ b :: m ++ a :: l2) := by
      rw [List.append_assoc, List.append_assoc]
      refine List.Perm.append_left l1 ?_
      simp only [List.cons_append]
      exact (List.Perm.cons a List.perm_middle).trans ((List.Perm.swap b a _).trans (List.Perm.cons b List.perm_middle.symm))
    have := cntL_perm x hp
    omega
theorem inv_snoc (l : List Int) (a : Int) : invL (l ++ [a]) = invL l + l.countP fun x => decide (a < x) := by
  induction l with
  | nil => rfl
  | cons x l ih =>
    simp only [List.cons_append, invL, ih, cntL_append, List.countP_cons]
    have : cntL x [a] = if a < x then 1 else 0 := by rw [cntL_cons]; simp [cntL]
    rw [this]
    simp only [decide_eq_true_eq]
    omega

/-! ### one behind the other -/
/-- one order, and another one behind it -/
def thenL (p q : List Int) : List Int := q.map fun k => p.getD k.toNat 0
/-- what an order does to numbers -/
def doL (p x : List Int) : List Int := p.map fun k => x.getD k.toNat 0
theorem thenL_get {n : Nat} {p q : List Int} (hq : q.length = n) {k : Nat} (hk : k < n) : (thenL p q).getD k 0 = p.getD (q.getD k 0).toNat 0 := by
  simp [thenL, List.getD, List.getElem?_map, List.getElem?_eq_getElem (show k < q.length by omega)]
theorem doL_get {n : Nat} {p x : List Int} (hp : p.length = n) {k : Nat} (hk : k < n) : (doL p x).getD k 0 = x.getD (p.getD k 0).toNat 0 := thenL_get hp hk
theorem thenL_len (p q : List Int) : (thenL p q).length = q.length := by simp [thenL]
theorem doL_len (p x : List Int) : (doL p x).length = p.length := by simp [doL]
theorem thenL_up {n : Nat} {p : List Int} (hp : p.length = n) : thenL p (upL n) = p :=
  list_ext (by rw [thenL_len, upL_len, hp]) fun k hk => by
    rw [thenL_len, upL_len] at hk
    rw [thenL_get (upL_len n) hk, upL_get hk, Int.toNat_natCast]
theorem Ord.then {n : Nat} {p q : List Int} (hp : Ord n p) (hq : Ord n q) : Ord n (thenL p q) := Ord.of_perm (by
  have h := hq.perm.map fun k => p.getD k.toNat 0
  have e : (upL n).map (fun k => p.getD k.toNat 0) = p := thenL_up hp.len
  rw [e] at h
  exact hp.perm.trans h)
theorem sgn_then {n : Nat} {p q : List Int} (hp : Ord n p) (hq : Ord n q) : sgnL (thenL p q) = sgnL p * sgnL q := by
  refine sgn_mul ?_
  have h := inv_map (fun k => p.getD k.toNat 0) hq.perm (upL_nodup n) fun x hx y hy e => by
    obtain ⟨h1, h2⟩ := upL_mem.1 hx
    obtain ⟨h3, h4⟩ := upL_mem.1 hy
    have := hp.inj (i := x.toNat) (k := y.toNat) (by omega) (by omega) e
    omega
  have e : (upL n).map (fun k => p.getD k.toNat 0) = p := thenL_up hp.len
  rw [e, inv_up] at h
  show (invL p + invL q) % 2 = invL (q.map fun k => p.getD k.toNat 0) % 2
  omega
/-- where a number stands -/
def atL (p : List Int) (x : Int) : Nat := (p.findIdx? (fun y => y == x)).getD 0
theorem Ord.at_ {n : Nat} {p : List Int} (h : Ord n p) {i : Nat} (hi : i < n) : atL p (p.getD i 0) = i := by
  unfold atL
  have li : i < p.length := by rw [h.len]; exact hi
  have : p.findIdx? (fun y => y == p.getD i 0) = some i := by
    rw [List.findIdx?_eq_some_iff_getElem]
    refine ⟨li, by simp [List.getD, li], fun j hj => ?_⟩
    have lj : j < n := by omega
    simp only [Bool.not_eq_true, beq_eq_false_iff_ne]
    intro e
    have e' : p.getD j 0 = p.getD i 0 := by rw [← e, List.getD, List.getElem?_eq_getElem (show j < p.length by omega)]; rfl
    have := h.inj lj hi e'
    omega
  rw [this]; rfl
/-- what undoes an order -/
def backL (p : List Int) : List Int := tab p.length fun k => (atL p k : Int)
theorem backL_len (p : List Int) : (backL p).length = p.length := tab_len _ _
theorem Ord.at_lt {n : Nat} {p : List Int} (h : Ord n p) {k : Nat} (hk : k < n) : atL p k < n ∧ p.getD (atL p k) 0 = k := by
  obtain ⟨i, hi, e⟩ := h.find hk
  rw [← e, h.at_ hi]
  exact ⟨hi, rfl⟩
theorem Ord.back_get {n : Nat} {p : List Int} (h : Ord n p) {k : Nat} (hk : k < n) : (backL p).getD k 0 = atL p k := tab_get _ (by rw [h.len]; exact hk)
theorem Ord.then_back {n : Nat} {p : List Int} (h : Ord n p) : thenL p (backL p) = upL n :=
  list_ext (by rw [thenL_len, backL_len, h.len, upL_len]) fun k hk => by
    rw [thenL_len, backL_len, h.len] at hk
    rw [thenL_get (n := n) (by rw [backL_len, h.len]) hk, h.back_get hk, upL_get hk, Int.toNat_natCast, (h.at_lt hk).2]
theorem Ord.back_then {n : Nat} {p : List Int} (h : Ord n p) : thenL (backL p) p = upL n :=
  list_ext (by rw [thenL_len, h.len, upL_len]) fun k hk => by
    rw [thenL_len, h.len] at hk
    obtain ⟨h1, h2⟩ := h.get hk
    rw [thenL_get h.len hk, h.back_get (by omega), upL_get hk, Int.toNat_of_nonneg h1, h.at_ hk]
theorem Ord.back {n : Nat} {p : List Int} (h : Ord n p) : Ord n (backL p) := ⟨by rw [backL_len, h.len], fun k hk => by
  obtain ⟨h1, h2⟩ := h.get hk
  have e := h.back_get (k := (p.getD k 0).toNat) (by omega)
  rw [Int.toNat_of_nonneg h1, h.at_ hk] at e
  rw [← e]
  exact get_mem0 (by rw [backL_len, h.len]; omega)⟩
theorem Ord.back_back {n : Nat} {p : List Int} (h : Ord n p) : backL (backL p) = p :=
  list_ext (by rw [backL_len, backL_len]) fun k hk => by
    rw [backL_len, backL_len, h.len] at hk
    rw [h.back.back_get hk]
    have := h.back.at_ (i := (p.getD k 0).toNat) (by have := h.get hk; omega)
    rw [h.back_get (by have := h.get hk; omega), Int.toNat_of_nonneg (h.get hk).1, h.at_ hk] at this
    rw [this, Int.toNat_of_nonneg (h.get hk).1]
theorem sgn_up (n : Nat) : sgnL (upL n) = 1 := by simp [sgnL, inv_up]
theorem sgn_back {n : Nat} {p : List Int} (h : Ord n p) : sgnL (backL p) = sgnL p := by
  have := sgn_then h h.back
  rw [h.then_back, sgn_up] at this
  rcases sgn_or p with h1 | h1 <;> rcases sgn_or (backL p) with h2 | h2 <;> rw [h1, h2] at this <;> simp_all
theorem do_do {n : Nat} {p q x : List Int} (hp : p.length = n) (hq : Ord n q) : doL q (doL p x) = doL (thenL p q) x :=
  list_ext (by rw [doL_len, doL_len, thenL_len]) fun k hk => by
    rw [doL_len, hq.len] at hk
    have := hq.get hk
    rw [doL_get hq.len hk, doL_get hp (by omega), doL_get (n := n) (by rw [thenL_len, hq.len]) hk, thenL_get hq.len hk]
theorem do_up {n : Nat} {x : List Int} (hx : x.length = n) : doL (upL n) x = x :=
  thenL_up hx
theorem split_at {p : List Int} {x y : Nat} (hxy : x < y) (hy : y < p.length) : ∃ (l1 m l2 : List Int) (a b : Int), p = l1 ++ a :: m ++ b :: l2 ∧ x = l1.length ∧ y = l1.length + 1 + m.length := by
  refine ⟨p.take x, (p.drop (x + 1)).take (y - x - 1), p.drop (y + 1), p[x], p[y], ?_, by simp; omega, by simp; omega⟩
  have e1 : p.drop x = p[x] :: p.drop (x + 1) := List.drop_eq_getElem_cons (by omega)
  have e2 : p.drop y = p[y] :: p.drop (y + 1) := List.drop_eq_getElem_cons hy
  have e3 : (p.drop (x + 1)).drop (y - x - 1) = p.drop y := by rw [List.drop_drop, show x + 1 + (y - x - 1) = y by omega]
  calc p = p.take x ++ p.drop x := (List.take_append_drop x p).symm
    _ = _ := by rw [e1, ← e2, ← e3, List.append_assoc, List.cons_append, List.take_append_drop]
/-- two of an order's numbers, changed -/
theorem sgn_set {n : Nat} {p : List Int} (h : Ord n p) {x y : Nat} (hy : y < n) (hxy : x < y) :
    Ord n ((p.set x (p.getD y 0)).set y (p.getD x 0)) ∧ sgnL ((p.set x (p.getD y 0)).set y (p.getD x 0)) ≠ sgnL p := by
  have ly : y < p.length := by rw [h.len]; exact hy
  obtain ⟨l1, m, l2, a, b, rfl, rfl, rfl⟩ := split_at hxy ly
  have ga : (l1 ++ a :: m ++ b :: l2).getD l1.length 0 = a := by simp [List.getD]
  have gb : (l1 ++ a :: m ++ b :: l2).getD (l1.length + 1 + m.length) 0 = b := by
    have : l1.length + 1 + m.length = (l1 ++ a :: m).length := by simp; omega
    rw [this, List.getD, List.getElem?_append_right (Nat.le_refl _)]; simp
  have e : ((l1 ++ a :: m ++ b :: l2).set l1.length b).set (l1.length + 1 + m.length) a = l1 ++ b :: m ++ a :: l2 := by
    have h1 : (l1 ++ a :: m ++ b :: l2).set l1.length b = l1 ++ b :: m ++ b :: l2 := by simp
    have : l1.length + 1 + m.length = (l1 ++ b :: m).length := by simp; omega
    rw [h1, this, List.set_append_right _ _ (Nat.le_refl _)]; simp
  rw [ga, gb, e]
  have hs := inv_swap l1 m l2 a b h.nodup
  refine ⟨Ord.of_perm (h.perm.trans ?_), sgn_turn hs⟩
  rw [List.append_assoc, List.append_assoc]
  refine List.Perm.append_left l1 ?_
  simp only [List.cons_append]
  exact (List.Perm.cons a List.perm_middle).trans ((List.Perm.swap b a _).trans (List.Perm.cons b List.perm_middle.symm))
end Go.Proofs.YtijpeepdedfhoaaGreat
