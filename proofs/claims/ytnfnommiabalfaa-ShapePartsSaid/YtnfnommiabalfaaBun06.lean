/- What the texts Dot, Piece, MatM, OrdM, DetM, DetE show, in one text. -/
import Derived.Test.YtnfnommiabalfaaBun05
import Derived.Laws.Externs
import Derived.Test.YtnfnommiabalfaaBun04
/- What field.Dot, Div and Norm answer. -/
namespace Go.Proofs.Ytnfnommiabalfaa
open Go.RowKit


theorem add64_run (x y : Int) (hx : 0 ≤ x) (hy : 0 ≤ y) (w : World) :
    (callFunc 74 #[.int .u64 x, .int .u64 y, .int .u64 0]).run Try.prog w =
      .ok (.value (.tuple #[.int .u64 ((x + y) % 18446744073709551616), .int .u64 ((x + y) / 18446744073709551616)])) w := by
  rw [run_callFunc_extern Try.func74 (by kernel_rfl) (by kernel_rfl) (by kernel_rfl) (e := add64Entry) (by kernel_rfl), run_add64 x y 0 hx hy (by omega) (by omega)]
  simp [Result.andThen]

/-- a step of Dot's two words -/
theorem dot_step {p x y hi lo s : Int} (hp : 2 ≤ p) (hp1 : p ≤ 9223372036854775807) (hx0 : 0 ≤ x) (hx : x < p) (hy0 : 0 ≤ y) (hy : y < p) (hh : hi < p) (hl0 : 0 ≤ lo) (hl : lo ≤ 18446744073709551615)
    (h : (hi * 18446744073709551616 + lo) % p = s % p) :
    0 ≤ x * y / 18446744073709551616 ∧ 0 ≤ x * y % 18446744073709551616 ∧ x * y % 18446744073709551616 ≤ 18446744073709551615 ∧
    0 ≤ (lo + x * y % 18446744073709551616) / 18446744073709551616 ∧ (lo + x * y % 18446744073709551616) / 18446744073709551616 ≤ 1 ∧ 0 ≤ (lo + x * y) % 18446744073709551616 ∧ (lo + x * y) % 18446744073709551616 ≤ 18446744073709551615 ∧
    hi + x * y / 18446744073709551616 + (lo + x * y % 18446744073709551616) / 18446744073709551616 < 2 * p ∧
    (((hi + x * y / 18446744073709551616 + (lo + x * y % 18446744073709551616) / 18446744073709551616) % p) * 18446744073709551616 + (lo + x * y) % 18446744073709551616) % p = (s + x * y) % p := by
  have h1 := Int.mul_nonneg hx0 hy0
  have h2 : x * y ≤ (p - 1) * (p - 1) := Int.mul_le_mul (by omega) (by omega) hy0 (by omega)
  have h3 : (p - 1) * (p - 1) ≤ 9223372036854775806 * (p - 1) := Int.mul_le_mul_of_nonneg_right (by omega) (by omega)
  refine ⟨by omega, by omega, by omega, by omega, by omega, by omega, by omega, by omega, ?_⟩
  rw [← ma_l, mm_l, ma_l]
  have e : (hi + x * y / 18446744073709551616 + (lo + x * y % 18446744073709551616) / 18446744073709551616) * 18446744073709551616 + (lo + x * y) % 18446744073709551616 = (hi * 18446744073709551616 + lo) + x * y := by omega
  rw [e, ← ma_l, h, ma_l]

/-- the sum of the products, place by place -/
def dotZ : List Int → List Int → Int
  | x :: xs, y :: ys => x * y + dotZ xs ys
  | _, _ => 0
theorem dotZ_comm : ∀ xs ys : List Int, dotZ xs ys = dotZ ys xs
  | x :: xs, y :: ys => by rw [dotZ, dotZ, dotZ_comm xs ys, Int.mul_comm]
  | [], [] => rfl
  | [], _ :: _ => rfl
  | _ :: _, [] => rfl
theorem dotZ_cut (k : Nat) : ∀ xs ys : List Int, dotZ (xs.take k) (ys.take k) + dotZ (xs.drop k) (ys.drop k) = dotZ xs ys := by
  induction k with
  | zero => intro xs ys; simp [dotZ]
  | succ k ih =>
    intro xs ys
    match xs, ys with
    | [], ys => simp [dotZ]
    | x :: xs, [] => simp [dotZ]
    | x :: xs, y :: ys =>
      have := ih xs ys
      simp only [List.take_succ_cons, List.drop_succ_cons, dotZ]; omega
theorem dotZ_zero : ∀ (xs : List Int) (n : Nat), dotZ xs (List.replicate n 0) = 0
  | [], n => by cases n <;> simp [dotZ]
  | x :: xs, 0 => by simp [dotZ]
  | x :: xs, n + 1 => by rw [List.replicate_succ, dotZ, dotZ_zero xs n]; simp
theorem dotZ_snoc : ∀ (xs ys : List Int) (x y : Int), xs.length = ys.length → dotZ (xs ++ [x]) (ys ++ [y]) = dotZ xs ys + x * y
  | [], [], x, y, _ => by simp [dotZ]
  | a :: xs, b :: ys, x, y, h => by
    have := dotZ_snoc xs ys x y (by simpa using h)
    simp only [List.cons_append, dotZ, this]; omega
theorem take_snoc (xs : List Int) (k : Nat) (h : k < xs.length) : xs.take (k + 1) = xs.take k ++ [xs.getD k 0] := by
  rw [List.take_succ_eq_append_getElem h]; simp [List.getD, List.getElem?_eq_getElem h]
theorem dotZ_take (xs ys : List Int) (k : Nat) (h : k < xs.length) (h' : k < ys.length) : dotZ (xs.take (k + 1)) (ys.take (k + 1)) = dotZ (xs.take k) (ys.take k) + xs.getD k 0 * ys.getD k 0 := by
  rw [take_snoc xs k h, take_snoc ys k h', dotZ_snoc _ _ _ _ (by simp; omega)]
theorem get_lt {p : Int} {xs : List Int} (h : ∀ x ∈ xs, x < p) {k : Nat} (hk : k < xs.length) : xs.getD k 0 < p := by
  have e : xs.getD k 0 = xs[k] := by simp [List.getD, List.getElem?_eq_getElem hk]
  rw [e]; exact h _ (List.getElem_mem hk)

set_option maxHeartbeats 1000000 in
theorem dot_drw (p : Int) (v u : Value) (xs ys : List Int) (w : World) (hv : Ints .u64 w v xs) (hu : Ints .u64 w u ys) (hx : U64s xs) (hy : U64s ys) (hl : xs.length = ys.length) (h1 : hasB p xs = true) (h2 : hasB p ys = true) :
    Calls Try.prog 43 #[.int .u64 p, v, u] w (RetD (.tuple #[.int .u64 (dotZ xs ys % p), .int .i64 0]) w) := by
  have hp2 := rightB_true (hasB_true h1).1
  have H1 := hid h1; have H2 := hid h2; clear h1 h2
  have Hv := hid hv; have Hu := hid hu
  obtain ⟨a, cap, rfl, hc1, hc2, hc⟩ := hv
  obtain ⟨a', cap', rfl, hc1', hc2', hc'⟩ := hu
  have Hc := hid hc; have Hc' := hid hc'; clear hc hc'
  have Hx := hid hx; have Hy := hid hy; clear hx hy
  rw [← hl] at Hc' Hu hc1' ⊢
  obtain ⟨n, hn⟩ : ∃ n, xs.length = n := ⟨_, rfl⟩
  have Hl := hid hl; clear hl
  rw [hn] at Hc Hc' Hu Hv hc1 hc1' ⊢
  have Hn := hid hn; clear hn
  go_enter Try.func43, Try.ntmps43
  go_wp2_with (first
    | (go_at_call_of 27 a; refine (has_yes p _ _ _ Hv.out Hx.out H1.out).mono ?_; rintro e w' ⟨rfl, rfl⟩)
    | (go_at_call_of 27 a'; refine (has_yes p _ _ _ Hu.out Hy.out H2.out).mono ?_; rintro e w' ⟨rfl, rfl⟩))
  go_loopw [33, 8, 9] (fun i h l wr => ∃ (k : Nat) (hi lo : Int), i = .int .i64 k ∧ h = .int .u64 hi ∧ l = .int .u64 lo ∧ k ≤ n ∧ 0 ≤ hi ∧ hi < p ∧ 0 ≤ lo ∧ lo ≤ 18446744073709551615 ∧
    (hi * 18446744073709551616 + lo) % p = dotZ (xs.take k) (ys.take k) % p ∧ Drw w wr) (fun i _ _ _ => n - (intOf i).toNat)
  case atStart => exact ⟨0, 0, 0, rfl, rfl, rfl, by omega, by omega, by omega, by omega, by omega, by simp [dotZ], Drw.refl _⟩
  case round =>
    obtain ⟨k, hi, lo, rfl, rfl, rfl, hk, hh0, hh, hl0, hl, he, hdw⟩ := hrel
    have hw := hdw.ext
    have He := hid he; clear he
    by_cases hlt : k < n
    · obtain ⟨b, off, rfl, hb, hcell⟩ := Hc.out (by omega)
      obtain ⟨b', off', rfl, hb', hcell'⟩ := Hc'.out (by omega)
      have g := (hw.cells _ _ hb).trans (hcell k hlt)
      have g' := (hw.cells _ _ hb').trans (hcell' k hlt)
      have hg := U64s.get Hx.out (k := k) (by rw [Hn.out]; exact hlt)
      have hg' := U64s.get Hy.out (k := k) (by rw [← Hl.out, Hn.out]; exact hlt)
      have lt1 := get_lt (hasB_true H1.out).2 (k := k) (by rw [Hn.out]; exact hlt)
      have lt2 := get_lt (hasB_true H2.out).2 (k := k) (by rw [← Hl.out, Hn.out]; exact hlt)
      have hd := dotZ_take xs ys k (by rw [Hn.out]; exact hlt) (by rw [← Hl.out, Hn.out]; exact hlt)
      clear hcell hcell'
      generalize xs.getD k 0 = x at *
      generalize ys.getD k 0 = y at *
      have hs := dot_step hp2.1 hp2.2 hg.1 lt1 hg'.1 lt2 hh hl0 hl He.out
      rw [← hd] at hs
      obtain ⟨s1, s2, s3, s4, s5, s6, s7, s8, s9⟩ := hs
      have S9 := hid s9
      clear s9 hd
      have ha := add64_run lo (x * y % 18446744073709551616) hl0 s2
      go_wp2_with fail
      go_quiet ((go_at_call 73; exact quiet_l (mul64_any _ _ _ hg.1 hg.2 hg'.1 hg'.2)))
      go_wp2_with fail
      refine (less_any p _ _ (by omega) hp2.2 (by omega) s8).mono ?_
      rintro e w' ⟨rfl, rfl⟩
      go_wp2_with fail
      have r := mod_range (hi + x * y / 18446744073709551616 + (lo + x * y % 18446744073709551616) / 18446744073709551616) hp2.1
      go_roundw
      case rel => exact ⟨k + 1, _, _, by go_num, rfl, rfl, by omega, r.1, r.2, s6, s7, S9.out, hdw.drewN _⟩
      case measure => simp [intOf]; omega
    · obtain rfl : k = n := by omega
      have e2 := He.out
      rw [List.take_of_length_le (by rw [Hn.out]; omega), List.take_of_length_le (by rw [← Hl.out, Hn.out]; omega)] at e2
      have E2 := hid e2; clear e2
      go_wp2_with fail
      refine (left_any p hi lo _ hh0 hh (by omega) hl0 hl).mono ?_
      rintro e w' ⟨rfl, m, rfl⟩
      go_wp2_with fail
      go_ret2
      exact ⟨by rw [← E2.out]; rfl, hdw.drewN _⟩
theorem dot_yes (p : Int) (v u : Value) (xs ys : List Int) (w : World) (hv : Ints .u64 w v xs) (hu : Ints .u64 w u ys) (hx : U64s xs) (hy : U64s ys) (hl : xs.length = ys.length) (h1 : hasB p xs = true) (h2 : hasB p ys = true) :
    Calls Try.prog 43 #[.int .u64 p, v, u] w (Ret (.tuple #[.int .u64 (dotZ xs ys % p), .int .i64 0]) w) := RetD.ret (dot_drw p v u xs ys w hv hu hx hy hl h1 h2)
set_option maxHeartbeats 1000000 in
theorem dot_no (p : Int) (v u : Value) (xs ys : List Int) (w : World) (hp0 : 0 ≤ p) (hp : p ≤ 18446744073709551615) (hv : Ints .u64 w v xs) (hu : Ints .u64 w u ys) (hx : U64s xs) (hy : U64s ys) (h : xs.length ≠ ys.length ∨ hasB p xs = false ∨ hasB p ys = false) :
    Calls Try.prog 43 #[.int .u64 p, v, u] w (Ret (.tuple #[.int .u64 0, .int .i64 1]) w) := by
  have Hv := hid hv; have Hu := hid hu
  obtain ⟨a, cap, rfl, hc1, hc2, hc⟩ := hv
  obtain ⟨a', cap', rfl, hc1', hc2', hc'⟩ := hu
  clear hc hc'
  obtain ⟨n, hn⟩ : ∃ n, xs.length = n := ⟨_, rfl⟩
  obtain ⟨m, hm⟩ : ∃ m, ys.length = m := ⟨_, rfl⟩
  rw [hn, hm] at h
  rw [hn] at Hv hc1 ⊢
  rw [hm] at Hu hc1' ⊢
  clear hn hm
  have Hx := hid hx; have Hy := hid hy; clear hx hy
  by_cases hl : n = m
  · have t1 : ((n : Int) != (m : Int)) = false := by rw [hl]; simp
    by_cases h1 : hasB p xs = true
    · have h2 : hasB p ys = false := by
        rcases h with h | h | h
        · exact absurd hl h
        · rw [h1] at h; cases h
        · exact h
      have H1 := hid h1; have H2 := hid h2; clear h1 h2 hl h
      go_enter Try.func43, Try.ntmps43
      go_wp2_with (first
        | (go_at_call_of 27 a; refine (has_yes p _ _ _ Hv.out Hx.out H1.out).mono ?_; rintro e w' ⟨rfl, rfl⟩)
        | (go_at_call_of 27 a'; refine (has_no p _ _ _ hp0 hp Hu.out Hy.out H2.out).mono ?_; rintro e w' ⟨rfl, rfl⟩))
      go_ret2
      exact ⟨rfl, (by repeat (first | exact Ext.refl _ | assumption | refine Ext.drew ?_ | refine Ext.drewN ?_ _ | refine Ext.alloc ?_ _ | refine Ext.trans ?_ (by assumption)))⟩
    · have H1 := hid (Bool.eq_false_iff.2 h1); clear h1 hl h
      go_enter Try.func43, Try.ntmps43
      go_wp2_with (go_at_call 27; refine (has_no p _ _ _ hp0 hp Hv.out Hx.out H1.out).mono ?_; rintro e w' ⟨rfl, rfl⟩)
      go_ret2
      exact ⟨rfl, (by repeat (first | exact Ext.refl _ | assumption | refine Ext.drew ?_ | refine Ext.drewN ?_ _ | refine Ext.alloc ?_ _ | refine Ext.trans ?_ (by assumption)))⟩
  · have t1 : ((n : Int) != (m : Int)) = true := by simp; omega
    clear hl h
    go_enter Try.func43, Try.ntmps43
    go_wp2_with fail
    go_ret2
    exact ⟨rfl, (by repeat (first | exact Ext.refl _ | assumption | refine Ext.drew ?_ | refine Ext.drewN ?_ _ | refine Ext.alloc ?_ _ | refine Ext.trans ?_ (by assumption)))⟩

theorem dot_as (p r : Int) (v u : Value) (xs ys : List Int) (w : World) (hv : Ints .u64 w v xs) (hu : Ints .u64 w u ys) (hx : U64s xs) (hy : U64s ys) (hl : xs.length = ys.length) (h1 : hasB p xs = true) (h2 : hasB p ys = true) (h : dotZ xs ys % p = r) :
    Calls Try.prog 43 #[.int .u64 p, v, u] w (Ret (.tuple #[.int .u64 r, .int .i64 0]) w) := h ▸ dot_yes p v u xs ys w hv hu hx hy hl h1 h2
theorem dotD_as (p r : Int) (v u : Value) (xs ys : List Int) (w : World) (hv : Ints .u64 w v xs) (hu : Ints .u64 w u ys) (hx : U64s xs) (hy : U64s ys) (hl : xs.length = ys.length) (h1 : hasB p xs = true) (h2 : hasB p ys = true) (h : dotZ xs ys % p = r) :
    Calls Try.prog 43 #[.int .u64 p, v, u] w (RetD (.tuple #[.int .u64 r, .int .i64 0]) w) := h ▸ dot_drw p v u xs ys w hv hu hx hy hl h1 h2
end Go.Proofs.Ytnfnommiabalfaa
/- Pieces of slices, and dot products of pieces. -/
namespace Go.Proofs.Ytnfnommiabalfaa
open Go.RowKit

/-- a piece of a slice, where neither end is out of it and its begin isn't its capacity's -/
theorem slice_run (b off len cap lo hi : Nat) (h1 : lo ≤ hi) (h2 : hi ≤ cap) (h3 : lo < cap) (w : World) :
    (Instr.slice 23 (.slice (some ⟨b, off, none⟩) len cap) (some (.int .i64 (lo : Int))) (some (.int .i64 (hi : Int))) none).run Try.prog w = .ok (.slice (some ⟨b, off + lo, none⟩) (hi - lo) (cap - lo)) w := by
  have hu : Try.prog.underlying 23 = some (.slice (Try.prog.elem 23)) := by kernel_rfl
  have hs : ((sizeOf (Try.prog.elem 23)).run Try.prog w) = .ok 1 w := by kernel_rfl
  rw [run_slice_lh w 23 _ len cap hu .i64 .i64 lo hi (by omega) (by omega) (by omega), hs]
  simp only [Result.andThen, sliced, Int.toNat_natCast]
  rw [if_neg (by omega)]
  simp [Go.WideShapes.add_plain]
theorem slice_run' (b off len cap lo hi : Nat) (h1 : lo ≤ hi) (h2 : hi ≤ cap) (h3 : lo < cap) (w : World) :
    (Instr.sliceAt 23 (.slice (some ⟨b, off, none⟩) len cap) (some (.int .i64 (lo : Int))) (some (.int .i64 (hi : Int))) none).run Try.prog w = .ok (.slice (some ⟨b, off + lo, none⟩) (hi - lo) (cap - lo)) w := by
  have hu : Try.prog.underlying 23 = some (.slice (Try.prog.elem 23)) := by kernel_rfl
  rw [run_sliceAt_slice w 23 _ _ _ _ hu]
  exact slice_run b off len cap lo hi h1 h2 h3 w
theorem Ints.sub {k : IntKind} {w : World} {b off m cap : Nat} {xs : List Int} (h : Ints k w (.slice (some ⟨b, off, none⟩) m cap) xs) (lo n : Nat) (hn : lo + n ≤ xs.length) (h0 : 0 < n) :
    Ints k w (.slice (some ⟨b, off + lo, none⟩) n (cap - lo)) ((xs.drop lo).take n) := by
  obtain ⟨a, cap', e, h1, h2, h3⟩ := h
  injection e with e1 e2 e3
  subst e1; subst e3
  obtain ⟨b', off', ha, hb, hc⟩ := h3 (by omega)
  injection ha with ha
  injection ha with e4 e5
  subst e4; subst e5
  have hl : ((xs.drop lo).take n).length = n := by simp; omega
  refine ⟨_, cap - lo, by rw [hl], by omega, by omega, fun _ => ⟨b, off + lo, rfl, hb, fun j hj => ?_⟩⟩
  rw [Nat.add_assoc, hc (lo + j) (by omega)]
  simp [List.getD, show j < n by omega]

theorem sub_get (xs : List Int) (lo n j : Nat) (hj : j < n) : ((xs.drop lo).take n).getD j 0 = xs.getD (lo + j) 0 := by
  simp [List.getD, hj]
theorem dotZ_sm : ∀ xs ys : List Int, xs.length = ys.length → dotZ xs ys = sm xs.length fun i => xs.getD i 0 * ys.getD i 0
  | [], [], _ => rfl
  | [], _ :: _, h => by simp at h
  | _ :: _, [], h => by simp at h
  | x :: xs, y :: ys, h => by
    rw [List.length_cons, sm_head, dotZ, dotZ_sm xs ys (by simpa using h)]
    simp
end Go.Proofs.Ytnfnommiabalfaa
/- Matrices as rows of numbers: places, sums of sums, products (in plain Lean; nothing of a program). -/
namespace Go.Proofs.Ytnfnommiabalfaa
variable {p : Int}

/-- the numbers f 0, f 1 and so on, n of them -/
def tab (n : Nat) (f : Nat → Int) : List Int := (List.range n).map f
theorem tab_len (n : Nat) (f : Nat → Int) : (tab n f).length = n := by simp [tab]
theorem tab_get {n k : Nat} (f : Nat → Int) (h : k < n) : (tab n f).getD k 0 = f k := by simp [tab, List.getD, h]
theorem tab_succ (n : Nat) (f : Nat → Int) : tab (n + 1) f = tab n f ++ [f n] := by simp [tab, List.range_succ]
theorem tab_congr {n : Nat} {f g : Nat → Int} (h : ∀ k, k < n → f k = g k) : tab n f = tab n g := by
  unfold tab
  exact List.map_congr_left fun k hk => h k (List.mem_range.1 hk)
theorem tab_of {n : Nat} {l : List Int} {f : Nat → Int} (hl : l.length = n) (h : ∀ k, k < n → l.getD k 0 = f k) : l = tab n f :=
  list_ext (by rw [hl, tab_len]) fun k hk => by rw [tab_get f (by omega), h k (by omega)]
theorem tab_self (l : List Int) : tab l.length (fun k => l.getD k 0) = l := (tab_of rfl fun _ _ => rfl).symm
theorem tab_rng {n : Nat} {f : Nat → Int} (h : ∀ k, k < n → 0 ≤ f k ∧ f k < p) : Rng p (tab n f) := Rng.of_get fun k hk => by
  rw [tab_len] at hk
  rw [tab_get f hk]; exact h k hk
/-- a cell's place -/
theorem at_div {c i k : Nat} (h : k < c) : (i * c + k) / c = i := by
  rw [Nat.add_comm, Nat.add_mul_div_right _ _ (by omega), Nat.div_eq_of_lt h, Nat.zero_add]
theorem at_mod {c i k : Nat} (h : k < c) : (i * c + k) % c = k := by
  rw [Nat.add_comm, Nat.add_mul_mod_self_right, Nat.mod_eq_of_lt h]
theorem at_lt {r c i k : Nat} (hi : i < r) (hk : k < c) : i * c + k < r * c := by
  have := Nat.mul_le_mul_right c (show i + 1 ≤ r by omega)
  rw [Nat.add_mul] at this
  omega
theorem lt_div {r c t : Nat} (h : t < r * c) : t / c < r := Nat.div_lt_of_lt_mul (by rw [Nat.mul_comm]; exact h)
theorem lt_mod {r c t : Nat} (h : t < r * c) : t % c < c := Nat.mod_lt _ (by
  rcases Nat.eq_zero_or_pos c with h0 | h0
  · rw [h0] at h; simp at h
  · exact h0)
/-- a matrix of r rows, c columns, by its cells -/
def grid (r c : Nat) (M : Nat → Nat → Int) : List Int := tab (r * c) fun t => M (t / c) (t % c)
theorem grid_len (r c : Nat) (M : Nat → Nat → Int) : (grid r c M).length = r * c := tab_len _ _
theorem grid_get {r c i k : Nat} (M : Nat → Nat → Int) (hi : i < r) (hk : k < c) : (grid r c M).getD (i * c + k) 0 = M i k := by
  unfold grid
  rw [tab_get _ (at_lt hi hk), at_div hk, at_mod hk]
theorem grid_congr {r c : Nat} {M N : Nat → Nat → Int} (h : ∀ i k, i < r → k < c → M i k = N i k) : grid r c M = grid r c N :=
  tab_congr fun _ ht => h _ _ (lt_div ht) (lt_mod ht)
theorem grid_of {r c : Nat} {l : List Int} {M : Nat → Nat → Int} (hl : l.length = r * c) (h : ∀ i k, i < r → k < c → l.getD (i * c + k) 0 = M i k) : l = grid r c M :=
  tab_of hl fun t ht => by
    have := h (t / c) (t % c) (lt_div ht) (lt_mod ht)
    rw [Nat.mul_comm, Nat.div_add_mod] at this
    exact this
theorem grid_self {r c : Nat} {l : List Int} (hl : l.length = r * c) : grid r c (fun i k => l.getD (i * c + k) 0) = l := (grid_of hl fun _ _ _ _ => rfl).symm
theorem grid_rng {r c : Nat} {M : Nat → Nat → Int} (h : ∀ i k, i < r → k < c → 0 ≤ M i k ∧ M i k < p) : Rng p (grid r c M) :=
  tab_rng fun _ ht => h _ _ (lt_div ht) (lt_mod ht)

/-! ### Sums of sums -/
theorem sm_comm (f : Nat → Nat → Int) : ∀ m n : Nat, sm m (fun i => sm n fun j => f i j) = sm n fun j => sm m fun i => f i j
  | 0, n => by
    exact (sm_zero fun _ _ => rfl).symm
  | m + 1, n => by
    show sm m (fun i => sm n fun j => f i j) + sm n (fun j => f m j) = _
    rw [sm_comm f m n, ← sm_add]
    rfl
theorem sm_single {n i : Nat} (g : Nat → Int) (h : i < n) : sm n (fun k => if k = i then g k else 0) = g i := by
  rw [sm_piece i 1 (by omega) (fun k hk => if_neg (by omega)) (fun k h1 h2 => if_neg (by omega))]
  simp [sm]
/-- what a row of numbers and another one make -/
def dv (p : Int) (n : Nat) (a x : Nat → Int) : Int := (sm n fun k => a k * x k) % p
theorem dv_congr {n : Nat} {a b x y : Nat → Int} (h : ∀ k, k < n → a k = b k) (h' : ∀ k, k < n → x k = y k) : dv p n a x = dv p n b y := by
  unfold dv; rw [sm_congr fun k hk => by rw [h k hk, h' k hk]]
theorem dv_comm (n : Nat) (a x : Nat → Int) : dv p n a x = dv p n x a := by
  unfold dv; rw [sm_congr fun k _ => Int.mul_comm (a k) (x k)]
theorem dv_range (hp : 2 ≤ p) (n : Nat) (a x : Nat → Int) : 0 ≤ dv p n a x ∧ dv p n a x < p := mod_range _ hp
theorem dv_zero (a x : Nat → Int) : dv p 0 a x = 0 := by simp [dv, sm]
theorem dv_succ (k : Nat) (a x : Nat → Int) : dv p (k + 1) a x = (dv p k a x + a k * x k % p) % p := by
  unfold dv
  rw [ma_l, ma_r]; rfl
theorem dv_assoc (n m : Nat) (a x : Nat → Int) (b : Nat → Nat → Int) : dv p n a (fun k => dv p m (b k) x) = dv p m (fun j => dv p n a fun k => b k j) x := by
  have e1 : dv p n a (fun k => dv p m (b k) x) = (sm n fun k => sm m fun j => a k * (b k j * x j)) % p := by
    unfold dv
    exact sm_mod fun k _ => by rw [mm_r, sm_mul]
  have e2 : dv p m (fun j => dv p n a fun k => b k j) x = (sm m fun j => sm n fun k => a k * (b k j * x j)) % p := by
    unfold dv
    refine sm_mod fun j _ => ?_
    rw [mm_l, ← sm_mul_r]
    rw [sm_congr fun k _ => Int.mul_assoc (a k) (b k j) (x j)]
  rw [e1, e2, sm_comm]
theorem dv_one {n i : Nat} (x : Nat → Int) (h : i < n) : dv p n (fun k => if k = i then 1 else 0) x = x i % p := by
  unfold dv
  rw [sm_congr (g := fun k => if k = i then x k else 0) fun k _ => by
    show (if k = i then 1 else 0) * x k = if k = i then x k else 0
    by_cases e : k = i
    · rw [if_pos e, if_pos e, Int.one_mul]
    · rw [if_neg e, if_neg e, Int.zero_mul], sm_single x h]
theorem dv_dotZ {xs ys : List Int} {n : Nat} (h : xs.length = n) (h' : ys.length = n) : dotZ xs ys % p = dv p n (fun k => xs.getD k 0) fun k => ys.getD k 0 := by
  rw [dotZ_sm xs ys (by omega), h]; rfl
end Go.Proofs.Ytnfnommiabalfaa
/- Orders: lists of the numbers from 0 on, each once; their signs, and what they do one behind the other (in plain Lean; nothing of a program). -/
namespace Go.Proofs.Ytnfnommiabalfaa

/-- lists without repetition, held against one another -/
theorem nodup_sub {l r : List Int} (hl : l.Nodup) (hs : ∀ x ∈ l, x ∈ r) (hn : r.length ≤ l.length) : l.Perm r := by
  induction l generalizing r with
  | nil => cases r with
    | nil => exact List.Perm.refl _
    | cons a r => simp at hn
  | cons a l ih =>
    have ha := hs a (List.mem_cons_self ..)
    have hp := List.perm_cons_erase ha
    have hlen := hp.length_eq
    simp only [List.length_cons] at hlen hn
    obtain ⟨h1, h2⟩ := List.nodup_cons.1 hl
    refine (List.Perm.cons a (ih h2 (fun x hx => ?_) (by omega))).trans hp.symm
    exact (List.mem_erase_of_ne (fun e => h1 (by subst e; exact hx))).2 (hs x (List.mem_cons_of_mem _ hx))
theorem nodup_len {l r : List Int} (hl : l.Nodup) (hs : ∀ x ∈ l, x ∈ r) : l.length ≤ r.length := by
  induction l generalizing r with
  | nil => simp
  | cons a l ih =>
    have ha := hs a (List.mem_cons_self ..)
    have hlen := (List.perm_cons_erase ha).length_eq
    simp only [List.length_cons] at hlen ⊢
    obtain ⟨h1, h2⟩ := List.nodup_cons.1 hl
    have := ih h2 (r := r.erase a) fun x hx => (List.mem_erase_of_ne (fun e => h1 (by subst e; exact hx))).2 (hs x (List.mem_cons_of_mem _ hx))
    omega
/-- the numbers from 0 on, so many -/
def upL (n : Nat) : List Int := tab n fun k => (k : Int)
theorem upL_len (n : Nat) : (upL n).length = n := tab_len _ _
theorem upL_mem {n : Nat} {x : Int} : x ∈ upL n ↔ 0 ≤ x ∧ x < n := by
  simp only [upL, tab, List.mem_map, List.mem_range]
  exact ⟨fun ⟨k, h1, h2⟩ => by omega, fun ⟨h1, h2⟩ => ⟨x.toNat, by omega, by omega⟩⟩
theorem upL_nodup (n : Nat) : (upL n).Nodup := by
  unfold upL tab List.Nodup
  rw [List.pairwise_map]
  exact List.nodup_range.imp fun h => by omega
theorem upL_get {n k : Nat} (h : k < n) : (upL n).getD k 0 = k := tab_get _ h

/-- an order of n -/
structure Ord (n : Nat) (p : List Int) : Prop where
  len : p.length = n
  has : ∀ k : Nat, k < n → (k : Int) ∈ p
theorem Ord.perm {n : Nat} {p : List Int} (h : Ord n p) : (upL n).Perm p :=
  nodup_sub (upL_nodup n) (fun x hx => by
    obtain ⟨h1, h2⟩ := upL_mem.1 hx
    have := h.has x.toNat (by omega)
    rwa [Int.toNat_of_nonneg h1] at this) (by rw [h.len, upL_len]; omega)
theorem Ord.of_perm {n : Nat} {p : List Int} (h : (upL n).Perm p) : Ord n p :=
  ⟨by rw [← h.length_eq, upL_len], fun k hk => h.mem_iff.1 (upL_mem.2 (by omega))⟩
theorem Ord.nodup {n : Nat} {p : List Int} (h : Ord n p) : p.Nodup := h.perm.nodup_iff.1 (upL_nodup n)
theorem Ord.mem {n : Nat} {p : List Int} (h : Ord n p) {x : Int} (hx : x ∈ p) : 0 ≤ x ∧ x < n := upL_mem.1 (h.perm.mem_iff.2 hx)
theorem get_mem0 {p : List Int} {k : Nat} (h : k < p.length) : p.getD k 0 ∈ p := by
  rw [List.getD, List.getElem?_eq_getElem h]; exact List.getElem_mem h
theorem Ord.get {n : Nat} {p : List Int} (h : Ord n p) {k : Nat} (hk : k < n) : 0 ≤ p.getD k 0 ∧ p.getD k 0 < n := h.mem (get_mem0 (by rw [h.len]; exact hk))
theorem Ord.inj {n : Nat} {p : List Int} (h : Ord n p) {i k : Nat} (hi : i < n) (hk : k < n) (e : p.getD i 0 = p.getD k 0) : i = k := by
  have hn := h.nodup
  have li : i < p.length := by rw [h.len]; exact hi
  have lk : k < p.length := by rw [h.len]; exact hk
  rw [List.getD, List.getD, List.getElem?_eq_getElem li, List.getElem?_eq_getElem lk] at e
  have hp := List.pairwise_iff_getElem.1 hn
  rcases Nat.lt_trichotomy i k with c | c | c
  · exact absurd e (hp i k li lk c)
  · exact c
  · exact absurd e.symm (hp k i lk li c)
theorem Ord.find {n : Nat} {p : List Int} (h : Ord n p) {k : Nat} (hk : k < n) : ∃ i, i < n ∧ p.getD i 0 = k := by
  obtain ⟨i, hi, e⟩ := List.getElem_of_mem (h.has k hk)
  exact ⟨i, by rw [← h.len]; exact hi, by rw [List.getD, List.getElem?_eq_getElem hi]; exact e⟩
theorem Ord.up (n : Nat) : Ord n (upL n) := ⟨upL_len n, fun k hk => upL_mem.2 (by omega)⟩

/-! ### the sign -/
/-- how many are less -/
def cntL (a : Int) (l : List Int) : Nat := l.countP fun x => decide (x < a)
/-- the pairs that stand the wrong way round -/
def invL : List Int → Nat
  | [] => 0
  | a :: l => cntL a l + invL l
theorem cntL_cons (a x : Int) (l : List Int) : cntL a (x :: l) = cntL a l + if x < a then 1 else 0 := by
  unfold cntL; rw [List.countP_cons]; simp
theorem cntL_perm (a : Int) {l r : List Int} (h : l.Perm r) : cntL a l = cntL a r := h.countP_eq _
theorem cntL_append (a : Int) (l r : List Int) : cntL a (l ++ r) = cntL a l + cntL a r := List.countP_append
/-- an order's numbers, put through what keeps them apart: the pairs turn alike -/
theorem inv_map (f : Int → Int) {l r : List Int} (h : l.Perm r) (hl : l.Nodup) (hf : ∀ x ∈ l, ∀ y ∈ l, f x = f y → x = y) :
    (invL (l.map f) + invL l) % 2 = (invL (r.map f) + invL r) % 2 := by
  induction h with
  | nil => rfl
  | cons x h ih =>
    rename_i l1 l2
    have e1 := cntL_perm x h
    have e2 := cntL_perm (f x) (h.map f)
    have := ih (List.nodup_cons.1 hl).2 fun a ha b hb => hf a (List.mem_cons_of_mem _ ha) b (List.mem_cons_of_mem _ hb)
    simp only [List.map_cons, invL]
    omega
  | swap x y l =>
    have hne : x ≠ y := fun e => by
      subst e
      exact (List.nodup_cons.1 hl).1 (List.mem_cons_self ..)
    have hfe : f x ≠ f y := fun e => hne (hf _ (by simp) _ (by simp) e)
    simp only [List.map_cons, invL, cntL_cons]
    rcases Int.lt_or_gt_of_ne hne with h1 | h1 <;> rcases Int.lt_or_gt_of_ne hfe with h2 | h2 <;>
      simp only [h1, h2, if_true, if_neg (Int.not_lt.2 (Int.le_of_lt h1)), if_neg (Int.not_lt.2 (Int.le_of_lt h2))] <;> omega
  | trans h1 h2 ih1 ih2 =>
    rename_i l1 l2 l3
    rw [ih1 hl hf, ih2 (h1.nodup_iff.1 hl) fun a ha b hb => hf a (h1.mem_iff.2 ha) b (h1.mem_iff.2 hb)]
theorem inv_sorted {l : List Int} (h : l.Pairwise fun a b => a ≤ b) : invL l = 0 := by
  induction l with
  | nil => rfl
  | cons a l ih =>
    obtain ⟨h1, h2⟩ := List.pairwise_cons.1 h
    have : cntL a l = 0 := by
      unfold cntL
      rw [List.countP_eq_zero]
      intro b hb
      have := h1 b hb
      simp; omega
    rw [invL, ih h2, this]
theorem inv_up (n : Nat) : invL (upL n) = 0 := inv_sorted (by
  unfold upL tab
  rw [List.pairwise_map]
  exact (List.pairwise_lt_range).imp fun h => by omega)
/-- the sign -/
def sgnL (l : List Int) : Int := if invL l % 2 = 0 then 1 else -1
theorem sgn_or (l : List Int) : sgnL l = 1 ∨ sgnL l = -1 := by unfold sgnL; split <;> simp
theorem sgn_mul {a b c : List Int} (h : (invL a + invL b) % 2 = invL c % 2) : sgnL c = sgnL a * sgnL b := by
  unfold sgnL
  rcases Nat.mod_two_eq_zero_or_one (invL a) with h1 | h1 <;> rcases Nat.mod_two_eq_zero_or_one (invL b) with h2 | h2 <;>
    rw [show invL c % 2 = (invL a % 2 + invL b % 2) % 2 by omega] <;> simp [h1, h2]
theorem sgn_turn {a b : List Int} (h : (invL a + 1) % 2 = invL b % 2) : sgnL b ≠ sgnL a := by
  unfold sgnL
  rcases Nat.mod_two_eq_zero_or_one (invL a) with h1 | h1 <;> rw [show invL b % 2 = (invL a % 2 + 1) % 2 by omega] <;> simp [h1]
/-- a number that is carried along a row -/
theorem inv_carry (m : List Int) (b : Int) (l : List Int) (h : b ∉ m) : invL (m ++ b :: l) % 2 = (invL (b :: (m ++ l)) + m.length) % 2 := by
  induction m with
  | nil => simp
  | cons x m ih =>
    have hx : b ≠ x := fun e => h (by rw [e]; exact List.mem_cons_self ..)
    have := ih fun k => h (List.mem_cons_of_mem _ k)
    have e1 : cntL x (m ++ b :: l) = cntL x (m ++ l) + if b < x then 1 else 0 := by rw [cntL_append, cntL_cons, cntL_append]; omega
    simp only [List.cons_append, invL, cntL_cons, e1, List.length_cons] at this ⊢
    rcases Int.lt_or_gt_of_ne hx with h1 | h1 <;> simp only [h1, if_true, if_neg (Int.not_lt.2 (Int.le_of_lt h1))] <;> omega
/-- two numbers that are changed turn the sign -/
theorem inv_swap (l1 m l2 : List Int) (a b : Int) (h : (l1 ++ a :: m ++ b :: l2).Nodup) : (invL (l1 ++ a :: m ++ b :: l2) + 1) % 2 = invL (l1 ++ b :: m ++ a :: l2) % 2 := by
  induction l1 with
  | nil =>
    simp only [List.nil_append] at h ⊢
    have hb : b ∉ a :: m := fun k => (List.nodup_append.1 h).2.2 b k b (List.mem_cons_self ..) rfl
    have ha : a ∉ m := (List.nodup_cons.1 (List.nodup_append.1 h).1).1
    have hab : a ≠ b := fun e => hb (by rw [e]; exact List.mem_cons_self ..)
    have ham : a ∉ b :: m := fun k => by
      rcases List.mem_cons.1 k with k | k
      · exact hab k
      · exact ha k
    have h1 := inv_carry (a :: m) b l2 hb
    have h2 := inv_carry (b :: m) a l2 ham
    simp only [List.cons_append, invL, cntL_cons, List.length_cons] at h1 h2 ⊢
    rcases Int.lt_or_gt_of_ne hab with k | k <;> simp only [k, if_true, if_neg (Int.not_lt.2 (Int.le_of_lt k))] at h1 h2 ⊢ <;> omega
  | cons x l1 ih =>
    simp only [List.cons_append] at h ⊢
    have := ih (List.nodup_cons.1 h).2
    simp only [invL] at this ⊢
    have hp : (l1 ++ a :: m ++ b :: l2).Perm (l1 ++ b :: m ++ a :: l2) := by
      rw [List.append_assoc, List.append_assoc]
      refine List.Perm.append_left l1 ?_
      simp only [List.cons_append]
      exact (List.Perm.cons a List.perm_middle).trans ((List.Perm.swap b a _).trans (List.Perm.cons b List.perm_middle.symm))
    have := cntL_perm x hp
    omega
theorem inv_snoc (l : List Int) (a : Int) : invL (l ++ [a]) = invL l + l.countP fun x => decide (a < x) := by
  induction l with
  | nil => rfl
  | cons x l ih =>
    simp only [List.cons_append, invL, ih, cntL_append, List.countP_cons]
    have : cntL x [a] = if a < x then 1 else 0 := by rw [cntL_cons]; simp [cntL]
    rw [this]
    simp only [decide_eq_true_eq]
    omega

/-! ### one behind the other -/
/-- one order, and another one behind it -/
def thenL (p q : List Int) : List Int := q.map fun k => p.getD k.toNat 0
/-- what an order does to numbers -/
def doL (p x : List Int) : List Int := p.map fun k => x.getD k.toNat 0
theorem thenL_get {n : Nat} {p q : List Int} (hq : q.length = n) {k : Nat} (hk : k < n) : (thenL p q).getD k 0 = p.getD (q.getD k 0).toNat 0 := by
  simp [thenL, List.getD, List.getElem?_map, List.getElem?_eq_getElem (show k < q.length by omega)]
theorem doL_get {n : Nat} {p x : List Int} (hp : p.length = n) {k : Nat} (hk : k < n) : (doL p x).getD k 0 = x.getD (p.getD k 0).toNat 0 := thenL_get hp hk
theorem thenL_len (p q : List Int) : (thenL p q).length = q.length := by simp [thenL]
theorem doL_len (p x : List Int) : (doL p x).length = p.length := by simp [doL]
theorem thenL_up {n : Nat} {p : List Int} (hp : p.length = n) : thenL p (upL n) = p :=
  list_ext (by rw [thenL_len, upL_len, hp]) fun k hk => by
    rw [thenL_len, upL_len] at hk
    rw [thenL_get (upL_len n) hk, upL_get hk, Int.toNat_natCast]
theorem Ord.then {n : Nat} {p q : List Int} (hp : Ord n p) (hq : Ord n q) : Ord n (thenL p q) := Ord.of_perm (by
  have h := hq.perm.map fun k => p.getD k.toNat 0
  have e : (upL n).map (fun k => p.getD k.toNat 0) = p := thenL_up hp.len
  rw [e] at h
  exact hp.perm.trans h)
theorem sgn_then {n : Nat} {p q : List Int} (hp : Ord n p) (hq : Ord n q) : sgnL (thenL p q) = sgnL p * sgnL q := by
  refine sgn_mul ?_
  have h := inv_map (fun k => p.getD k.toNat 0) hq.perm (upL_nodup n) fun x hx y hy e => by
    obtain ⟨h1, h2⟩ := upL_mem.1 hx
    obtain ⟨h3, h4⟩ := upL_mem.1 hy
    have := hp.inj (i := x.toNat) (k := y.toNat) (by omega) (by omega) e
    omega
  have e : (upL n).map (fun k => p.getD k.toNat 0) = p := thenL_up hp.len
  rw [e, inv_up] at h
  show (invL p + invL q) % 2 = invL (q.map fun k => p.getD k.toNat 0) % 2
  omega
/-- where a number stands -/
def atL (p : List Int) (x : Int) : Nat := (p.findIdx? (fun y => y == x)).getD 0
theorem Ord.at_ {n : Nat} {p : List Int} (h : Ord n p) {i : Nat} (hi : i < n) : atL p (p.getD i 0) = i := by
  unfold atL
  have li : i < p.length := by rw [h.len]; exact hi
  have : p.findIdx? (fun y => y == p.getD i 0) = some i := by
    rw [List.findIdx?_eq_some_iff_getElem]
    refine ⟨li, by simp [List.getD, li], fun j hj => ?_⟩
    have lj : j < n := by omega
    simp only [Bool.not_eq_true, beq_eq_false_iff_ne]
    intro e
    have e' : p.getD j 0 = p.getD i 0 := by rw [← e, List.getD, List.getElem?_eq_getElem (show j < p.length by omega)]; rfl
    have := h.inj lj hi e'
    omega
  rw [this]; rfl
/-- what undoes an order -/
def backL (p : List Int) : List Int := tab p.length fun k => (atL p k : Int)
theorem backL_len (p : List Int) : (backL p).length = p.length := tab_len _ _
theorem Ord.at_lt {n : Nat} {p : List Int} (h : Ord n p) {k : Nat} (hk : k < n) : atL p k < n ∧ p.getD (atL p k) 0 = k := by
  obtain ⟨i, hi, e⟩ := h.find hk
  rw [← e, h.at_ hi]
  exact ⟨hi, rfl⟩
theorem Ord.back_get {n : Nat} {p : List Int} (h : Ord n p) {k : Nat} (hk : k < n) : (backL p).getD k 0 = atL p k := tab_get _ (by rw [h.len]; exact hk)
theorem Ord.then_back {n : Nat} {p : List Int} (h : Ord n p) : thenL p (backL p) = upL n :=
  list_ext (by rw [thenL_len, backL_len, h.len, upL_len]) fun k hk => by
    rw [thenL_len, backL_len, h.len] at hk
    rw [thenL_get (n := n) (by rw [backL_len, h.len]) hk, h.back_get hk, upL_get hk, Int.toNat_natCast, (h.at_lt hk).2]
theorem Ord.back_then {n : Nat} {p : List Int} (h : Ord n p) : thenL (backL p) p = upL n :=
  list_ext (by rw [thenL_len, h.len, upL_len]) fun k hk => by
    rw [thenL_len, h.len] at hk
    obtain ⟨h1, h2⟩ := h.get hk
    rw [thenL_get h.len hk, h.back_get (by omega), upL_get hk, Int.toNat_of_nonneg h1, h.at_ hk]
theorem Ord.back {n : Nat} {p : List Int} (h : Ord n p) : Ord n (backL p) := ⟨by rw [backL_len, h.len], fun k hk => by
  obtain ⟨h1, h2⟩ := h.get hk
  have e := h.back_get (k := (p.getD k 0).toNat) (by omega)
  rw [Int.toNat_of_nonneg h1, h.at_ hk] at e
  rw [← e]
  exact get_mem0 (by rw [backL_len, h.len]; omega)⟩
theorem Ord.back_back {n : Nat} {p : List Int} (h : Ord n p) : backL (backL p) = p :=
  list_ext (by rw [backL_len, backL_len]) fun k hk => by
    rw [backL_len, backL_len, h.len] at hk
    rw [h.back.back_get hk]
    have := h.back.at_ (i := (p.getD k 0).toNat) (by have := h.get hk; omega)
    rw [h.back_get (by have := h.get hk; omega), Int.toNat_of_nonneg (h.get hk).1, h.at_ hk] at this
    rw [this, Int.toNat_of_nonneg (h.get hk).1]
theorem sgn_up (n : Nat) : sgnL (upL n) = 1 := by simp [sgnL, inv_up]
theorem sgn_back {n : Nat} {p : List Int} (h : Ord n p) : sgnL (backL p) = sgnL p := by
  have := sgn_then h h.back
  rw [h.then_back, sgn_up] at this
  rcases sgn_or p with h1 | h1 <;> rcases sgn_or (backL p) with h2 | h2 <;> rw [h1, h2] at this <;> simp_all
theorem do_do {n : Nat} {p q x : List Int} (hp : p.length = n) (hq : Ord n q) : doL q (doL p x) = doL (thenL p q) x :=
  list_ext (by rw [doL_len, doL_len, thenL_len]) fun k hk => by
    rw [doL_len, hq.len] at hk
    have := hq.get hk
    rw [doL_get hq.len hk, doL_get hp (by omega), doL_get (n := n) (by rw [thenL_len, hq.len]) hk, thenL_get hq.len hk]
theorem do_up {n : Nat} {x : List Int} (hx : x.length = n) : doL (upL n) x = x :=
  thenL_up hx
theorem split_at {p : List Int} {x y : Nat} (hxy : x < y) (hy : y < p.length) : ∃ (l1 m l2 : List Int) (a b : Int), p = l1 ++ a :: m ++ b :: l2 ∧ x = l1.length ∧ y = l1.length + 1 + m.length := by
  refine ⟨p.take x, (p.drop (x + 1)).take (y - x - 1), p.drop (y + 1), p[x], p[y], ?_, by simp; omega, by simp; omega⟩
  have e1 : p.drop x = p[x] :: p.drop (x + 1) := List.drop_eq_getElem_cons (by omega)
  have e2 : p.drop y = p[y] :: p.drop (y + 1) := List.drop_eq_getElem_cons hy
  have e3 : (p.drop (x + 1)).drop (y - x - 1) = p.drop y := by rw [List.drop_drop, show x + 1 + (y - x - 1) = y by omega]
  calc p = p.take x ++ p.drop x := (List.take_append_drop x p).symm
    _ = _ := by rw [e1, ← e2, ← e3, List.append_assoc, List.cons_append, List.take_append_drop]
/-- two of an order's numbers, changed -/
theorem sgn_set {n : Nat} {p : List Int} (h : Ord n p) {x y : Nat} (hy : y < n) (hxy : x < y) :
    Ord n ((p.set x (p.getD y 0)).set y (p.getD x 0)) ∧ sgnL ((p.set x (p.getD y 0)).set y (p.getD x 0)) ≠ sgnL p := by
  have ly : y < p.length := by rw [h.len]; exact hy
  obtain ⟨l1, m, l2, a, b, rfl, rfl, rfl⟩ := split_at hxy ly
  have ga : (l1 ++ a :: m ++ b :: l2).getD l1.length 0 = a := by simp [List.getD]
  have gb : (l1 ++ a :: m ++ b :: l2).getD (l1.length + 1 + m.length) 0 = b := by
    have : l1.length + 1 + m.length = (l1 ++ a :: m).length := by simp; omega
    rw [this, List.getD, List.getElem?_append_right (Nat.le_refl _)]; simp
  have e : ((l1 ++ a :: m ++ b :: l2).set l1.length b).set (l1.length + 1 + m.length) a = l1 ++ b :: m ++ a :: l2 := by
    have h1 : (l1 ++ a :: m ++ b :: l2).set l1.length b = l1 ++ b :: m ++ b :: l2 := by simp
    have : l1.length + 1 + m.length = (l1 ++ b :: m).length := by simp; omega
    rw [h1, this, List.set_append_right _ _ (Nat.le_refl _)]; simp
  rw [ga, gb, e]
  have hs := inv_swap l1 m l2 a b h.nodup
  refine ⟨Ord.of_perm (h.perm.trans ?_), sgn_turn hs⟩
  rw [List.append_assoc, List.append_assoc]
  refine List.Perm.append_left l1 ?_
  simp only [List.cons_append]
  exact (List.Perm.cons a List.perm_middle).trans ((List.Perm.swap b a _).trans (List.Perm.cons b List.perm_middle.symm))
end Go.Proofs.Ytnfnommiabalfaa
/- Determinants of rows of whole numbers: by the first row; linear in each row, 0 where two are alike; and what is so, is the determinant times a number (in plain Lean; nothing of a program). -/
namespace Go.Proofs.Ytnfnommiabalfaa

/-- a row -/
abbrev RowF := Nat → Int
def skp (k j : Nat) : Nat := if j < k then j else j + 1
def sg (k : Nat) : Int := if k % 2 = 0 then 1 else -1
theorem sg_add (a b : Nat) : sg (a + b) = sg a * sg b := by
  unfold sg
  rcases Nat.mod_two_eq_zero_or_one a with h1 | h1 <;> rcases Nat.mod_two_eq_zero_or_one b with h2 | h2 <;>
    rw [show (a + b) % 2 = (a % 2 + b % 2) % 2 by omega] <;> simp [h1, h2]
theorem sg_succ (a : Nat) : sg (a + 1) = - sg a := by rw [sg_add]; unfold sg; simp
theorem sg_sq (a : Nat) : sg a * sg a = 1 := by unfold sg; split <;> rfl
theorem sgnL_sg (l : List Int) : sgnL l = sg (invL l) := rfl
/-- the determinant, by the first row -/
def detN : Nat → List RowF → Int
  | 0, _ => 1
  | _ + 1, [] => 0
  | n + 1, r :: rs => sm (n + 1) fun k => sg k * r k * detN n (rs.map fun x j => x (skp k j))
/-- linear in each row of n, and 0 where two are alike -/
structure Alt (n : Nat) (f : List RowF → Int) : Prop where
  ext : ∀ (pre : List RowF) (x y : RowF) (post : List RowF), (pre ++ x :: post).length = n → (∀ j, j < n → x j = y j) → f (pre ++ x :: post) = f (pre ++ y :: post)
  lin : ∀ (pre : List RowF) (x y : RowF) (post : List RowF) (a b : Int), (pre ++ x :: post).length = n → f (pre ++ (fun j => a * x j + b * y j) :: post) = a * f (pre ++ x :: post) + b * f (pre ++ y :: post)
  adj : ∀ (pre : List RowF) (x : RowF) (post : List RowF), (pre ++ x :: x :: post).length = n → f (pre ++ x :: x :: post) = 0

theorem skp_lt {k j n : Nat} (h : j < n) : skp k j < n + 1 := by unfold skp; split <;> omega
theorem detN_ext : ∀ (n : Nat) (pre : List RowF) (x y : RowF) (post : List RowF), (pre ++ x :: post).length = n → (∀ j, j < n → x j = y j) → detN n (pre ++ x :: post) = detN n (pre ++ y :: post) := by
  intro n
  induction n with
  | zero => intro pre x y post h; simp at h
  | succ n ih =>
    intro pre x y post h hxy
    cases pre with
    | nil =>
      simp only [List.nil_append, detN]
      exact sm_congr fun k hk => by rw [hxy k hk]
    | cons r pre =>
      simp only [List.cons_append, detN, List.map_append, List.map_cons]
      refine sm_congr fun k hk => ?_
      rw [ih _ _ (fun j => y (skp k j)) _ (by simp at h ⊢; omega) fun j hj => hxy _ (skp_lt hj)]
theorem detN_lin : ∀ (n : Nat) (pre : List RowF) (x y : RowF) (post : List RowF) (a b : Int), (pre ++ x :: post).length = n → detN n (pre ++ (fun j => a * x j + b * y j) :: post) = a * detN n (pre ++ x :: post) + b * detN n (pre ++ y :: post) := by
  intro n
  induction n with
  | zero => intro pre x y post a b h; simp at h
  | succ n ih =>
    intro pre x y post a b h
    cases pre with
    | nil =>
      simp only [List.nil_append, detN]
      rw [← sm_mul, ← sm_mul, ← sm_add]
      exact sm_congr fun k hk => by grind
    | cons r pre =>
      simp only [List.cons_append, detN, List.map_append, List.map_cons]
      rw [← sm_mul, ← sm_mul, ← sm_add]
      refine sm_congr fun k hk => ?_
      rw [ih _ (fun j => x (skp k j)) (fun j => y (skp k j)) _ a b (by simp at h ⊢; omega)]
      grind
/-- a sum over all but one -/
theorem sm_skp (G : Nat → Int) : ∀ (n k : Nat), k < n + 1 → sm n (fun l => G (skp k l)) = sm (n + 1) fun b => if b = k then 0 else G b
  | 0, k, h => by
    obtain rfl : k = 0 := by omega
    simp [sm]
  | n + 1, k, h => by
    by_cases e : k = n + 1
    · subst e
      have h1 : sm (n + 1) (fun l => G (skp (n + 1) l)) = sm (n + 1) G := sm_congr fun l hl => by rw [skp, if_pos hl]
      have h2 : sm (n + 1 + 1) (fun b => if b = n + 1 then 0 else G b) = sm (n + 1) G + 0 := by
        show sm (n + 1) (fun b => if b = n + 1 then 0 else G b) + (if n + 1 = n + 1 then 0 else G (n + 1)) = _
        rw [if_pos rfl, sm_congr (g := G) fun b hb => by rw [if_neg (by omega)]]
      rw [h1, h2, Int.add_zero]
    · have ih := sm_skp G n k (by omega)
      show sm n (fun l => G (skp k l)) + G (skp k n) = sm (n + 1) (fun b => if b = k then 0 else G b) + (if n + 1 = k then 0 else G (n + 1))
      rw [ih, if_neg (by omega), skp, if_neg (by omega)]
theorem detN_two (n : Nat) (x : RowF) (post : List RowF) : detN (n + 2) (x :: x :: post) = 0 := by
  let D : Nat → Nat → Int := fun k l => detN n (post.map fun y j => y (skp k (skp l j)))
  let H : Nat → Nat → Int := fun k b => if b = k then 0 else sg k * x k * (sg (if b < k then b else b - 1) * x b * D k (if b < k then b else b - 1))
  have h1 : detN (n + 2) (x :: x :: post) = sm (n + 2) fun k => sm (n + 2) fun b => H k b := by
    show sm (n + 2) _ = _
    refine sm_congr fun k hk => ?_
    have h2 : detN (n + 1) ((x :: post).map fun y j => y (skp k j)) = sm (n + 1) fun l => sg l * x (skp k l) * D k l := by
      simp only [List.map_cons, detN, List.map_map]
      exact sm_congr fun l hl => rfl
    rw [h2, ← sm_mul]
    have h3 := sm_skp (fun b => sg k * x k * (sg (if b < k then b else b - 1) * x b * D k (if b < k then b else b - 1))) (n + 1) k hk
    rw [← h3]
    refine sm_congr fun l hl => ?_
    have e : (if skp k l < k then skp k l else skp k l - 1) = l := by unfold skp; (repeat' split) <;> omega
    simp only [e]
  have hA : ∀ k b, H k b = - H b k := by
    have main : ∀ k b, b < k → H k b = - H b k := by
      intro k b hb
      have hD : D k b = D b (k - 1) := by
        show detN n _ = detN n _
        congr 2
        funext y j
        congr 1
        unfold skp
        (repeat' split) <;> omega
      have hs : sg (k - 1) = - sg k := by
        have := sg_succ (k - 1)
        rw [show k - 1 + 1 = k by omega] at this
        omega
      have e1 : b ≠ k := by omega
      have e2 : k ≠ b := by omega
      have e3 : ¬ k < b := by omega
      simp only [H, if_neg e1, if_neg e2, if_pos hb, if_neg e3, hD, hs]
      grind
    intro k b
    rcases Nat.lt_trichotomy b k with h | h | h
    · exact main k b h
    · subst h; simp [H]
    · have := main b k h; omega
  have h4 : sm (n + 2) (fun k => sm (n + 2) fun b => H k b) = - sm (n + 2) fun k => sm (n + 2) fun b => H k b := by
    conv => lhs; rw [sm_comm]
    rw [← sm_neg]
    refine sm_congr fun k _ => ?_
    rw [← sm_neg]
    exact sm_congr fun b _ => hA b k
  rw [h1]
  omega
theorem detN_adj : ∀ (n : Nat) (pre : List RowF) (x : RowF) (post : List RowF), (pre ++ x :: x :: post).length = n → detN n (pre ++ x :: x :: post) = 0 := by
  intro n
  induction n with
  | zero => intro pre x post h; simp at h
  | succ n ih =>
    intro pre x post h
    cases pre with
    | nil =>
      cases n with
      | zero => simp at h
      | succ n => exact detN_two n x post
    | cons r pre =>
      simp only [List.cons_append, detN, List.map_append, List.map_cons]
      exact sm_zero fun k hk => by rw [ih _ _ _ (by simp at h ⊢; omega), Int.mul_zero]
theorem detN_alt (n : Nat) : Alt n (detN n) := ⟨detN_ext n, detN_lin n, detN_adj n⟩

/-! ### what is linear and 0 where two are alike -/
variable {n : Nat} {f : List RowF → Int}
theorem Alt.swap (h : Alt n f) (pre : List RowF) (x y : RowF) (post : List RowF) (hl : (pre ++ x :: y :: post).length = n) : f (pre ++ x :: y :: post) = - f (pre ++ y :: x :: post) := by
  have hl' : (pre ++ x :: y :: post).length = (pre ++ y :: x :: post).length := by simp
  let s : RowF := fun j => 1 * x j + 1 * y j
  have h0 := h.adj pre s post (by simpa using hl)
  have h1 := h.lin pre x y (s :: post) 1 1 (by simpa using hl)
  have h2 := h.lin (pre ++ [x]) x y post 1 1 (by simpa using hl)
  have h3 := h.lin (pre ++ [y]) x y post 1 1 (by simpa using hl)
  have h4 := h.adj pre x post (by simpa using hl)
  have h5 := h.adj pre y post (by simpa using hl)
  simp only [List.append_assoc, List.cons_append, List.nil_append] at h2 h3
  have h1' : f (pre ++ s :: s :: post) = 1 * f (pre ++ x :: s :: post) + 1 * f (pre ++ y :: s :: post) := h1
  have h2' : f (pre ++ x :: s :: post) = 1 * f (pre ++ x :: x :: post) + 1 * f (pre ++ x :: y :: post) := h2
  have h3' : f (pre ++ y :: s :: post) = 1 * f (pre ++ y :: x :: post) + 1 * f (pre ++ y :: y :: post) := h3
  omega
theorem Alt.alike (h : Alt n f) (x : RowF) (post : List RowF) : ∀ (mid pre : List RowF), (pre ++ x :: (mid ++ x :: post)).length = n → f (pre ++ x :: (mid ++ x :: post)) = 0
  | [], pre, hl => h.adj pre x post hl
  | z :: mid, pre, hl => by
    rw [List.cons_append, h.swap pre x z (mid ++ x :: post) (by simpa using hl)]
    have := Alt.alike h x post mid (pre ++ [z]) (by simp at hl ⊢; omega)
    simp only [List.append_assoc, List.cons_append, List.nil_append] at this
    rw [this]; rfl
/-- rows in another order -/
theorem Alt.perm (h : Alt n f) (g : Int → RowF) {l r : List Int} (hp : l.Perm r) : ∀ pre : List RowF, (pre ++ l.map g).length = n → sg (invL l) * f (pre ++ l.map g) = sg (invL r) * f (pre ++ r.map g) := by
  induction hp with
  | nil => intro pre _; rfl
  | cons x hp ih =>
    rename_i l1 l2
    intro pre hl
    have := ih (pre ++ [g x]) (by simp at hl ⊢; omega)
    simp only [List.append_assoc, List.cons_append, List.nil_append] at this
    simp only [List.map_cons, invL, sg_add, cntL_perm x hp]
    rw [Int.mul_assoc, Int.mul_assoc, this]
  | swap x y l =>
    intro pre hl
    simp only [List.map_cons] at hl ⊢
    have hs := h.swap pre (g y) (g x) (l.map g) hl
    by_cases e : x = y
    · subst e; rfl
    · have hi : sg (invL (y :: x :: l)) = - sg (invL (x :: y :: l)) := by
        simp only [invL, cntL_cons]
        rcases Int.lt_or_gt_of_ne e with k | k
        · rw [if_pos k, if_neg (by omega), ← sg_succ]; congr 1; omega
        · rw [if_neg (by omega), if_pos k]
          have := sg_succ (cntL y l + 0 + (cntL x l + invL l))
          rw [show cntL x l + 1 + (cntL y l + invL l) = cntL y l + 0 + (cntL x l + invL l) + 1 by omega, this]
          omega
      rw [hs, hi]
      grind
  | trans h1 h2 ih1 ih2 =>
    rename_i l1 l2 l3
    intro pre hl
    rw [ih1 pre hl, ih2 pre (by simp at hl ⊢; rw [← h1.length_eq]; exact hl)]
/-- a sum of rows in one row's place -/
theorem Alt.sum (h : Alt n f) (pre : List RowF) (x : RowF) (post : List RowF) (hl : (pre ++ x :: post).length = n) (c : Nat → Int) (y : Nat → RowF) : ∀ m : Nat,
    f (pre ++ (fun j => x j + sm m fun k => c k * y k j) :: post) = f (pre ++ x :: post) + sm m fun k => c k * f (pre ++ y k :: post)
  | 0 => by
    simp only [sm, Int.add_zero]
  | m + 1 => by
    have ih := Alt.sum h pre x post hl c y m
    have h1 := h.lin pre (fun j => x j + sm m fun k => c k * y k j) (y m) post 1 (c m) (by simpa using hl)
    have e : (fun j => x j + sm (m + 1) fun k => c k * y k j) = fun j => 1 * (x j + sm m fun k => c k * y k j) + c m * y m j := by
      funext j
      show x j + (sm m (fun k => c k * y k j) + c m * y m j) = _
      grind
    rw [e, h1, ih]
    show _ = f (pre ++ x :: post) + (sm m (fun k => c k * f (pre ++ y k :: post)) + c m * f (pre ++ y m :: post))
    grind
theorem Alt.scale (h : Alt n f) (pre : List RowF) (x : RowF) (post : List RowF) (a : Int) (hl : (pre ++ x :: post).length = n) : f (pre ++ (fun j => a * x j) :: post) = a * f (pre ++ x :: post) := by
  have := h.lin pre x x post a 0 hl
  rw [show (fun j => a * x j + 0 * x j) = fun j => a * x j by funext j; grind] at this
  rw [this]; grind
/-- what is alike modulo p -/
theorem Alt.mod (h : Alt n f) {p : Int} (pre : List RowF) (x y : RowF) (post : List RowF) (hl : (pre ++ x :: post).length = n) (hxy : ∀ j, j < n → x j % p = y j % p) : f (pre ++ x :: post) % p = f (pre ++ y :: post) % p := by
  have hl' : (pre ++ y :: post).length = n := by simpa using hl
  have e := h.ext pre x (fun j => 1 * y j + p * ((x j - y j) / p)) post hl fun j hj => by
    have h1 := hxy j hj
    have h2 : (x j - y j) % p = 0 := by rw [Int.sub_emod, h1]; simp
    have h3 := Int.mul_ediv_add_emod (x j - y j) p
    rw [h2] at h3
    omega
  rw [e, h.lin pre y (fun j => (x j - y j) / p) post 1 p hl']
  rw [Int.one_mul, Int.add_mul_emod_self_left]
end Go.Proofs.Ytnfnommiabalfaa
/- Determinants by elimination: rows of which multiples of others are taken, rows that have a column of their own; turned matrices (in plain Lean; nothing of a program). -/
namespace Go.Proofs.Ytnfnommiabalfaa
variable {n : Nat} {f : List RowF → Int}

def rwF (l : List RowF) (k : Nat) : RowF := l.getD k fun _ => 0
theorem rwF_mem {l : List RowF} {k : Nat} (h : k < l.length) : rwF l k ∈ l := by
  rw [rwF, List.getD, List.getElem?_eq_getElem h]; exact List.getElem_mem h
theorem rwF_take {l : List RowF} {k : Nat} (h : k < l.length) : l.take (k + 1) = l.take k ++ [rwF l k] := by
  rw [List.take_succ_eq_append_getElem h]; simp [rwF, List.getD, h]
theorem rwF_drop {l : List RowF} {k : Nat} (h : k < l.length) : l.drop k = rwF l k :: l.drop (k + 1) := by
  rw [List.drop_eq_getElem_cons h]; simp [rwF, List.getD, h]
theorem Alt.memL (h : Alt n f) {pre post : List RowF} {x : RowF} (hx : x ∈ pre) (hl : (pre ++ x :: post).length = n) : f (pre ++ x :: post) = 0 := by
  obtain ⟨s, t, rfl⟩ := List.append_of_mem hx
  have := h.alike x post t s (by simp at hl ⊢; omega)
  rw [List.append_assoc, List.cons_append]; exact this
theorem Alt.memR (h : Alt n f) {pre post : List RowF} {x : RowF} (hx : x ∈ post) (hl : (pre ++ x :: post).length = n) : f (pre ++ x :: post) = 0 := by
  obtain ⟨s, t, rfl⟩ := List.append_of_mem hx
  exact h.alike x t s pre hl
theorem Alt.zero (h : Alt n f) {pre post : List RowF} (hl : (pre ++ (fun _ => 0) :: post).length = n) : f (pre ++ (fun _ => 0) :: post) = 0 := by
  have := h.scale pre (fun _ => 0) post 0 hl
  rw [show (fun _ : Nat => (0 : Int) * 0) = fun _ => 0 by funext j; simp] at this
  rw [this, Int.zero_mul]
/-- rows of which multiples of those ahead are taken, modulo p -/
theorem Alt.tri (h : Alt n f) {p : Int} {ms us : List RowF} (lm : ms.length = n) (lu : us.length = n) (c : Nat → Nat → Int)
    (H : ∀ i, i < n → ∀ j, j < n → rwF ms i j % p = (rwF us i j + sm i fun k => c i k * rwF us k j) % p) : f ms % p = f us % p := by
  have main : ∀ i, i ≤ n → f ms % p = f (us.take i ++ ms.drop i) % p := by
    intro i
    induction i with
    | zero => intro _; simp
    | succ i ih =>
      intro hi
      rw [ih (by omega), rwF_drop (by omega), rwF_take (by omega), List.append_assoc, List.cons_append, List.nil_append]
      have hl : (us.take i ++ rwF ms i :: ms.drop (i + 1)).length = n := by simp; omega
      have hl' : ∀ x : RowF, (us.take i ++ x :: ms.drop (i + 1)).length = n := fun x => by simp; omega
      rw [h.mod _ _ (fun j => rwF us i j + sm i fun k => c i k * rwF us k j) _ hl (H i (by omega)), h.sum _ _ _ (hl' _) (c i) (fun k => rwF us k) i]
      rw [sm_zero fun k hk => ?_, Int.add_zero]
      have hm : rwF us k ∈ us.take i := by
        have h1 : rwF us k = rwF (us.take i) k := by simp [rwF, List.getD, hk]
        rw [h1]; exact rwF_mem (by simp; omega)
      rw [h.memL hm (hl' _), Int.mul_zero]
  have := main n (Nat.le_refl _)
  rwa [List.drop_of_length_le (by omega), List.take_of_length_le (by omega), List.append_nil] at this
/-- the row that is 1 at one place -/
def eR (a : Nat) : RowF := fun j => if j = a then 1 else 0
def prN : Nat → (Nat → Int) → Int
  | 0, _ => 1
  | n + 1, d => prN n d * d n
/-- rows that each have a column of their own, 0 ahead -/
theorem Alt.own (h : Alt n f) {us : List RowF} (lu : us.length = n) (s : Nat → Nat) (hi : ∀ i k, i < n → k < n → s i = s k → i = k) (hb : ∀ j, j < n → ∃ k, k < n ∧ s k = j)
    (hz : ∀ i k, k < i → i < n → rwF us i (s k) = 0) : f us = prN n (fun i => rwF us i (s i)) * f ((List.range n).map fun i => eR (s i)) := by
  obtain ⟨es, hes⟩ : ∃ es, ((List.range n).map fun i => eR (s i)) = es := ⟨_, rfl⟩
  have le : es.length = n := by rw [← hes]; simp
  have ge : ∀ k, k < n → rwF es k = eR (s k) := fun k hk => by rw [← hes]; simp [rwF, List.getD, hk]
  rw [hes]
  have main : ∀ i, i ≤ n → f (us.take i ++ es.drop i) = prN i (fun i => rwF us i (s i)) * f es := by
    intro i
    induction i with
    | zero => intro _; simp [prN]
    | succ i ih =>
      intro hin
      have hl' : ∀ x : RowF, (us.take i ++ x :: es.drop (i + 1)).length = n := fun x => by simp; omega
      rw [rwF_take (by omega), List.append_assoc, List.cons_append, List.nil_append]
      have e1 := h.ext (us.take i) (rwF us i) (fun j => 0 + sm n fun k => rwF us i (s k) * eR (s k) j) (es.drop (i + 1)) (hl' _) fun j hj => by
        obtain ⟨k, hk, rfl⟩ := hb j hj
        rw [Int.zero_add, sm_congr (g := fun k' => if k' = k then rwF us i (s k') else 0) fun k' hk' => by
          unfold eR
          by_cases e : k' = k
          · subst e; simp
          · rw [if_neg e, if_neg fun e2 => e (hi k' k hk' hk e2.symm), Int.mul_zero], sm_single _ hk]
      rw [e1, h.sum (us.take i) (fun _ => 0) (es.drop (i + 1)) (hl' _) (fun k => rwF us i (s k)) (fun k => eR (s k)) n, h.zero (hl' _), Int.zero_add]
      rw [sm_congr (g := fun k => if k = i then rwF us i (s i) * f (us.take i ++ es.drop i) else 0) fun k hk => ?_, sm_single _ (by omega), ih (by omega)]
      · show _ = prN i _ * rwF us i (s i) * f es
        grind
      · rcases Nat.lt_trichotomy k i with c | c | c
        · rw [if_neg (by omega), hz i k c (by omega), Int.zero_mul]
        · subst c
          have e := rwF_drop (l := es) (k := k) (by omega)
          rw [if_pos rfl, e, ge k hk]
        · rw [if_neg (by omega)]
          have hm : eR (s k) ∈ es.drop (i + 1) := by
            have h1 : eR (s k) = rwF (es.drop (i + 1)) (k - (i + 1)) := by
              rw [← ge k hk]; simp [rwF, List.getD, show i + 1 + (k - (i + 1)) = k by omega]
            rw [h1]; exact rwF_mem (by simp; omega)
          rw [h.memR hm (hl' _), Int.mul_zero]
  have := main n (Nat.le_refl _)
  rwa [List.drop_of_length_le (by omega), List.take_of_length_le (by omega), List.append_nil] at this
/-- the unit rows -/
def idF (n : Nat) : List RowF := (List.range n).map eR
/-- unit rows in an order -/
theorem Alt.order (h : Alt n f) {S : List Int} (hS : Ord n S) : f ((List.range n).map fun i => eR (S.getD i 0).toNat) = sgnL S * f (idF n) := by
  have h1 := h.perm (fun x => eR x.toNat) hS.perm [] (by simp [upL_len])
  have e1 : (upL n).map (fun x => eR x.toNat) = idF n := by
    unfold upL tab idF
    rw [List.map_map]
    rfl
  have e2 : S.map (fun x => eR x.toNat) = (List.range n).map fun i => eR (S.getD i 0).toNat := by
    have := tab_of hS.len (f := fun i => S.getD i 0) fun _ _ => rfl
    conv => lhs; rw [this, tab, List.map_map]
    rfl
  rw [List.nil_append, List.nil_append, e1, e2, inv_up] at h1
  rw [sgnL_sg]
  have h2 := sg_sq (invL S)
  have h3 : sg 0 = 1 := rfl
  rw [h3, Int.one_mul] at h1
  grind
theorem det_id : ∀ n, detN n (idF n) = 1
  | 0 => rfl
  | n + 1 => by
    have e : idF (n + 1) = eR 0 :: (List.range n).map fun i => eR (i + 1) := by
      unfold idF
      rw [List.range_succ_eq_map]
      simp [Function.comp_def]
    rw [e]
    show sm (n + 1) _ = 1
    rw [sm_congr (g := fun k => if k = 0 then detN n (idF n) else 0) fun k hk => ?_, sm_single _ (by omega), det_id n]
    by_cases h : k = 0
    · subst h
      rw [if_pos rfl]
      have : ((List.range n).map fun i => eR (i + 1)).map (fun x j => x (skp 0 j)) = idF n := by
        unfold idF
        rw [List.map_map]
        refine List.map_congr_left fun i _ => ?_
        funext j
        simp [Function.comp, eR, skp]
      rw [this]
      simp [sg, eR]
    · rw [if_neg h]
      simp [eR, h]

/-! ### turned -/
def detF (n : Nat) (A : Nat → Nat → Int) : Int := detN n ((List.range n).map A)
theorem detF_succ (n : Nat) (A : Nat → Nat → Int) : detF (n + 1) A = sm (n + 1) fun k => sg k * A 0 k * detF n fun i j => A (i + 1) (skp k j) := by
  unfold detF
  rw [List.range_succ_eq_map]
  simp only [List.map_cons, List.map_map, detN]
  rfl
theorem detF_congr : ∀ (n : Nat) {A B : Nat → Nat → Int}, (∀ i j, i < n → j < n → A i j = B i j) → detF n A = detF n B
  | 0, _, _, _ => rfl
  | n + 1, A, B, h => by
    rw [detF_succ, detF_succ]
    exact sm_congr fun k hk => by rw [h 0 k (by omega) hk, detF_congr n fun i j hi hj => h _ _ (by omega) (skp_lt hj)]
theorem detF_col : ∀ (n c : Nat) (a b : Int) {A X Y : Nat → Nat → Int}, c < n → (∀ i j, i < n → j < n → j ≠ c → A i j = X i j ∧ A i j = Y i j) → (∀ i, i < n → A i c = a * X i c + b * Y i c) → detF n A = a * detF n X + b * detF n Y
  | 0, c, _, _, _, _, _, h, _, _ => absurd h (Nat.not_lt_zero _)
  | n + 1, c, a, b, A, X, Y, hc, h1, h2 => by
    rw [detF_succ, detF_succ, detF_succ, ← sm_mul, ← sm_mul, ← sm_add]
    refine sm_congr fun k hk => ?_
    by_cases e : k = c
    · subst e
      have hne : ∀ j, skp k j ≠ k := fun j => by unfold skp; split <;> omega
      have e1 : detF n (fun i j => A (i + 1) (skp k j)) = detF n (fun i j => X (i + 1) (skp k j)) := detF_congr n fun i j hi hj => (h1 _ _ (by omega) (skp_lt hj) (hne j)).1
      have e2 : detF n (fun i j => A (i + 1) (skp k j)) = detF n (fun i j => Y (i + 1) (skp k j)) := detF_congr n fun i j hi hj => (h1 _ _ (by omega) (skp_lt hj) (hne j)).2
      rw [← e1, ← e2, h2 0 (by omega)]
      grind
    · obtain ⟨c', hc', ec⟩ : ∃ c', c' < n ∧ skp k c' = c := by
        by_cases h : c < k
        · exact ⟨c, by omega, by unfold skp; rw [if_pos h]⟩
        · exact ⟨c - 1, by omega, by unfold skp; rw [if_neg (by omega)]; omega⟩
      have hinj : ∀ j, j ≠ c' → skp k j ≠ c := fun j hj e => hj (by rw [← ec] at e; unfold skp at e; (repeat' split at e) <;> omega)
      have ih := detF_col n c' a b (A := fun i j => A (i + 1) (skp k j)) (X := fun i j => X (i + 1) (skp k j)) (Y := fun i j => Y (i + 1) (skp k j)) hc'
        (fun i j hi hj hne => h1 _ _ (by omega) (skp_lt hj) (hinj j hne)) (fun i hi => by
          show A (i + 1) (skp k c') = a * X (i + 1) (skp k c') + b * Y (i + 1) (skp k c')
          rw [ec]; exact h2 _ (by omega))
      obtain ⟨e1, e2⟩ := h1 0 k (by omega) hk e
      rw [ih, ← e1, ← e2]
      grind
theorem detF_cols : ∀ (n c : Nat) {A : Nat → Nat → Int}, c + 1 < n → (∀ i, i < n → A i c = A i (c + 1)) → detF n A = 0
  | 0, _, _, h, _ => absurd h (Nat.not_lt_zero _)
  | n + 1, c, A, hc, h => by
    rw [detF_succ]
    have hD : detF n (fun i j => A (i + 1) (skp c j)) = detF n (fun i j => A (i + 1) (skp (c + 1) j)) := detF_congr n fun i j hi hj => by
      by_cases e : j = c
      · subst e
        rw [skp, if_neg (by omega), skp, if_pos (by omega)]
        exact (h _ (by omega)).symm
      · congr 1
        unfold skp
        (repeat' split) <;> omega
    have hz : ∀ k, k < n + 1 → k ≠ c → k ≠ c + 1 → detF n (fun i j => A (i + 1) (skp k j)) = 0 := fun k hk h1 h2 => by
      by_cases e : c < k
      · refine detF_cols n c (by omega) fun i hi => ?_
        show A (i + 1) (skp k c) = A (i + 1) (skp k (c + 1))
        rw [skp, if_pos e, skp, if_pos (by omega)]
        exact h _ (by omega)
      · refine detF_cols n (c - 1) (by omega) fun i hi => ?_
        show A (i + 1) (skp k (c - 1)) = A (i + 1) (skp k (c - 1 + 1))
        rw [skp, if_neg (by omega), skp, if_neg (by omega), show c - 1 + 1 = c by omega]
        exact h _ (by omega)
    rw [sm_congr (g := fun k => (if k = c then sg c * A 0 c * detF n (fun i j => A (i + 1) (skp c j)) else 0) + (if k = c + 1 then sg (c + 1) * A 0 (c + 1) * detF n (fun i j => A (i + 1) (skp (c + 1) j)) else 0)) fun k hk => ?_, sm_add,
      sm_single (fun _ => sg c * A 0 c * detF n (fun i j => A (i + 1) (skp c j))) (by omega), sm_single (fun _ => sg (c + 1) * A 0 (c + 1) * detF n (fun i j => A (i + 1) (skp (c + 1) j))) (by omega), ← hD, ← h 0 (by omega), sg_succ]
    · grind
    · by_cases e1 : k = c
      · subst e1; rw [if_pos rfl, if_neg (by omega), Int.add_zero]
      · by_cases e2 : k = c + 1
        · subst e2; rw [if_neg e1, if_pos rfl, Int.zero_add]
        · rw [if_neg e1, if_neg e2, hz k hk e1 e2]; simp
/-- the turned rows' determinant -/
def detT (n : Nat) (l : List RowF) : Int := detF n fun j i => rwF l i j
theorem rwF_mid (pre : List RowF) (x : RowF) (post : List RowF) (i : Nat) : rwF (pre ++ x :: post) i = if i = pre.length then x else if i < pre.length then rwF pre i else rwF post (i - pre.length - 1) := by
  unfold rwF
  simp only [List.getD, List.getElem?_append]
  by_cases h : i < pre.length
  · rw [if_pos h, if_neg (by omega), if_pos h]
  · by_cases e : i = pre.length
    · subst e; simp
    · rw [if_neg h, if_neg e, if_neg h]
      obtain ⟨k, hk⟩ : ∃ k, i - pre.length = k + 1 := ⟨i - pre.length - 1, by omega⟩
      rw [hk]; simp
theorem detT_alt (n : Nat) : Alt n (detT n) := by
  refine ⟨fun pre x y post hl hxy => ?_, fun pre x y post a b hl => ?_, fun pre x post hl => ?_⟩
  · refine detF_congr n fun j i hj hi => ?_
    rw [rwF_mid, rwF_mid]
    by_cases e : i = pre.length
    · rw [if_pos e, if_pos e]; exact hxy j hj
    · rw [if_neg e, if_neg e]
  · refine detF_col n pre.length a b (by simp at hl; omega) (fun j i hj hi hne => ?_) fun j hj => ?_
    · rw [rwF_mid, rwF_mid, rwF_mid, if_neg hne, if_neg hne, if_neg hne]; exact ⟨rfl, rfl⟩
    · rw [rwF_mid, rwF_mid, rwF_mid, if_pos rfl, if_pos rfl, if_pos rfl]
  · refine detF_cols n pre.length (by simp at hl; omega) fun j hj => ?_
    rw [rwF_mid, rwF_mid, if_pos rfl, if_neg (by omega), if_neg (by omega), show pre.length + 1 - pre.length - 1 = 0 by omega]
    rfl
theorem detT_id (n : Nat) : detT n (idF n) = 1 := by
  have : detT n (idF n) = detN n (idF n) := by
    show detF n _ = detF n eR
    refine detF_congr n fun j i hj hi => ?_
    simp [idF, rwF, List.getD, hi, eR, eq_comm]
  rw [this, det_id]
end Go.Proofs.Ytnfnommiabalfaa
