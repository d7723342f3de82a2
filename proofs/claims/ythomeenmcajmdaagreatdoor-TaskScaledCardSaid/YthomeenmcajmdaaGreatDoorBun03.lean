import Derived.Test.YthomeenmcajmdaaGreatDoorBun02
import Derived.Laws.Externs
namespace Go.Proofs.YthomeenmcajmdaaGreatDoor
open Go.RowKit
set_option maxHeartbeats 400000 in
theorem norm_yes (p a : Int) (w : World) (hp : rightB p = true) (ha0 : 0 ≤ a) :
    Calls Tryz.prog 160 #[.int .u64 p, .int .u64 a] w (Ret (.tuple #[.int .u64 (a % p), .int .i64 0]) w) := by
  have hp2 := rightB_true hp
  go_enter Tryz.func160, Tryz.ntmps160
  go_wp2_with (go_at_call 37; refine (right_any _ _ (by omega) (by omega)).mono ?_; rintro e w' ⟨rfl, rfl⟩)
  go_ret2
  exact ⟨rfl, (by repeat (first | exact Ext.refl _ | assumption | refine Ext.drew ?_ | refine Ext.drewN ?_ _ | refine Ext.alloc ?_ _ | refine Ext.trans ?_ (by assumption)))⟩
set_option maxHeartbeats 400000 in
theorem div_yes (p a b : Int) (w : World) (hp : rightB p = true) (ha0 : 0 ≤ a) (ha : a < p) (hb0 : 0 ≤ b) (hb : b < p) (hub : unitB p b = true) :
    Calls Tryz.prog 170 #[.int .u64 p, .int .u64 a, .int .u64 b] w (Ret (.tuple #[.int .u64 (a * minv p b % p), .int .i64 0]) w) := by
  have hp2 := rightB_true hp
  have hh := hid (hasB_two hp ha hb)
  have Hp := hid hp; have Hu := hid hub
  have hm := minv_range p b hp2.1
  clear hp hub
  go_enter Tryz.func170, Tryz.ntmps170
  go_wp2_with fail
  refine (has_yes _ _ [a, b] _ Ints.new2 (U64s.cons (by omega) (by omega) (U64s.one (by omega) (by omega))) hh.out).mono ?_
  rintro e w' ⟨rfl, rfl⟩
  go_wp2_with fail
  refine (inv_yes p b _ Hp.out hb0 hb Hu.out).mono ?_
  rintro e w1 ⟨rfl, hw1⟩
  go_wp2_with fail
  refine (times_any p _ _ _ (by omega) (by omega) (by omega) (by omega) (by omega) (by omega) (.inl ha)).mono ?_
  rintro e w' ⟨rfl, n, rfl⟩
  go_wp2_with fail
  go_ret2
  exact ⟨rfl, Ext.trans (Ext.alloc (Ext.refl _) _) (Ext.drewN hw1 _)⟩
theorem add64_run (x y : Int) (hx : 0 ≤ x) (hy : 0 ≤ y) (w : World) :
    (callFunc 82 #[.int .u64 x, .int .u64 y, .int .u64 0]).run Tryz.prog w =
      .ok (.value (.tuple #[.int .u64 ((x + y) % 18446744073709551616), .int .u64 ((x + y) / 18446744073709551616)])) w := by
  rw [run_callFunc_extern Tryz.func82 (by kernel_rfl) (by kernel_rfl) (by kernel_rfl) (e := add64Entry) (by kernel_rfl), run_add64 x y 0 hx hy (by omega) (by omega)]
  simp [Result.andThen]
theorem dot_step {p x y hi lo s : Int} (hp : 2 ≤ p) (hp1 : p ≤ 9223372036854775807) (hx0 : 0 ≤ x) (hx : x < p) (hy0 : 0 ≤ y) (hy : y < p) (hh : hi < p) (hl0 : 0 ≤ lo) (hl : lo ≤ 18446744073709551615)
    (h : (hi * 18446744073709551616 + lo) % p = s % p) :
    0 ≤ x * y / 18446744073709551616 ∧ 0 ≤ x * y % 18446744073709551616 ∧ x * y % 18446744073709551616 ≤ 18446744073709551615 ∧
    0 ≤ (lo + x * y % 18446744073709551616) / 18446744073709551616 ∧ (lo + x * y % 18446744073709551616) / 18446744073709551616 ≤ 1 ∧ 0 ≤ (lo + x * y) % 18446744073709551616 ∧ (lo + x * y) % 18446744073709551616 ≤ 18446744073709551615 ∧
    hi + x * y / 18446744073709551616 + (lo + x * y % 18446744073709551616) / 18446744073709551616 < 2 * p ∧
    (((hi + x * y / 18446744073709551616 + (lo + x * y % 18446744073709551616) / 18446744073709551616) % p) * 18446744073709551616 + (lo + x * y) % 18446744073709551616) % p = (s + x * y) % p := by
  have h1 := Int.mul_nonneg hx0 hy0
  have h2 : x * y ≤ (p - 1) * (p - 1) := Int.mul_le_mul (by omega) (by omega) hy0 (by omega)
  have h3 : (p - 1) * (p - 1) ≤ 9223372036854775806 * (p - 1) := Int.mul_le_mul_of_nonneg_right (by omega) (by omega)
  refine ⟨by omega, by omega, by omega, by omega, by omega, by omega, by omega, by omega, ?_⟩
  rw [← ma_l, mm_l, ma_l]
  have e : (hi + x * y / 18446744073709551616 + (lo + x * y % 18446744073709551616) / 18446744073709551616) * 18446744073709551616 + (lo + x * y) % 18446744073709551616 = (hi * 18446744073709551616 + lo) + x * y := by omega
  rw [e, ← ma_l, h, ma_l]
def dotZ : List Int → List Int → Int
  | x :: xs, y :: ys => x * y + dotZ xs ys
  | _, _ => 0
theorem dotZ_snoc : ∀ (xs ys : List Int) (x y : Int), xs.length = ys.length → dotZ (xs ++ [x]) (ys ++ [y]) = dotZ xs ys + x * y
  | [], [], x, y, _ => by simp [dotZ]
  | a :: xs, b :: ys, x, y, h => by
    have := dotZ_snoc xs ys x y (by simpa using h)
    simp only [List.cons_append, dotZ, this]; omega
theorem take_snoc (xs : List Int) (k : Nat) (h : k < xs.length) : xs.take (k + 1) = xs.take k ++ [xs.getD k 0] := by
  rw [List.take_succ_eq_append_getElem h]; simp [List.getD, List.getElem?_eq_getElem h]
theorem dotZ_take (xs ys : List Int) (k : Nat) (h : k < xs.length) (h' : k < ys.length) : dotZ (xs.take (k + 1)) (ys.take (k + 1)) = dotZ (xs.take k) (ys.take k) + xs.getD k 0 * ys.getD k 0 := by
  rw [take_snoc xs k h, take_snoc ys k h', dotZ_snoc _ _ _ _ (by simp; omega)]
theorem get_lt {p : Int} {xs : List Int} (h : ∀ x ∈ xs, x < p) {k : Nat} (hk : k < xs.length) : xs.getD k 0 < p := by
  have e : xs.getD k 0 = xs[k] := by simp [List.getD, List.getElem?_eq_getElem hk]
  rw [e]; exact h _ (List.getElem_mem hk)
set_option maxHeartbeats 1000000 in
theorem dot_drw (p : Int) (v u : Value) (xs ys : List Int) (w : World) (hv : Ints .u64 w v xs) (hu : Ints .u64 w u ys) (hx : U64s xs) (hy : U64s ys) (hl : xs.length = ys.length) (h1 : hasB p xs = true) (h2 : hasB p ys = true) :
    Calls Tryz.prog 46 #[.int .u64 p, v, u] w (RetD (.tuple #[.int .u64 (dotZ xs ys % p), .int .i64 0]) w) := by
  have hp2 := rightB_true (hasB_true h1).1
  have H1 := hid h1; have H2 := hid h2; clear h1 h2
  have Hv := hid hv; have Hu := hid hu
  obtain ⟨a, cap, rfl, hc1, hc2, hc⟩ := hv
  obtain ⟨a', cap', rfl, hc1', hc2', hc'⟩ := hu
  have Hc := hid hc; have Hc' := hid hc'; clear hc hc'
  have Hx := hid hx; have Hy := hid hy; clear hx hy
  rw [← hl] at Hc' Hu hc1' ⊢
  obtain ⟨n, hn⟩ : ∃ n, xs.length = n := ⟨_, rfl⟩
  have Hl := hid hl; clear hl
  rw [hn] at Hc Hc' Hu Hv hc1 hc1' ⊢
  have Hn := hid hn; clear hn
  go_enter Tryz.func46, Tryz.ntmps46
  go_wp2_with (first
    | (go_at_call_of 60 a; refine (has_yes p _ _ _ Hv.out Hx.out H1.out).mono ?_; rintro e w' ⟨rfl, rfl⟩)
    | (go_at_call_of 60 a'; refine (has_yes p _ _ _ Hu.out Hy.out H2.out).mono ?_; rintro e w' ⟨rfl, rfl⟩))
  go_loopw [33, 8, 9] (fun i h l wr => ∃ (k : Nat) (hi lo : Int), i = .int .i64 k ∧ h = .int .u64 hi ∧ l = .int .u64 lo ∧ k ≤ n ∧ 0 ≤ hi ∧ hi < p ∧ 0 ≤ lo ∧ lo ≤ 18446744073709551615 ∧
    (hi * 18446744073709551616 + lo) % p = dotZ (xs.take k) (ys.take k) % p ∧ Drw w wr) (fun i _ _ _ => n - (intOf i).toNat)
  case atStart => exact ⟨0, 0, 0, rfl, rfl, rfl, by omega, by omega, by omega, by omega, by omega, by simp [dotZ], Drw.refl _⟩
  case round =>
    obtain ⟨k, hi, lo, rfl, rfl, rfl, hk, hh0, hh, hl0, hl, he, hdw⟩ := hrel
    have hw := hdw.ext
    have He := hid he; clear he
    by_cases hlt : k < n
    · obtain ⟨b, off, rfl, hb, hcell⟩ := Hc.out (by omega)
      obtain ⟨b', off', rfl, hb', hcell'⟩ := Hc'.out (by omega)
      have g := (hw.cells _ _ hb).trans (hcell k hlt)
      have g' := (hw.cells _ _ hb').trans (hcell' k hlt)
      have hg := U64s.get Hx.out (k := k) (by rw [Hn.out]; exact hlt)
      have hg' := U64s.get Hy.out (k := k) (by rw [← Hl.out, Hn.out]; exact hlt)
      have lt1 := get_lt (hasB_true H1.out).2 (k := k) (by rw [Hn.out]; exact hlt)
      have lt2 := get_lt (hasB_true H2.out).2 (k := k) (by rw [← Hl.out, Hn.out]; exact hlt)
      have hd := dotZ_take xs ys k (by rw [Hn.out]; exact hlt) (by rw [← Hl.out, Hn.out]; exact hlt)
      clear hcell hcell'
      generalize xs.getD k 0 = x at *
      generalize ys.getD k 0 = y at *
      have hs := dot_step hp2.1 hp2.2 hg.1 lt1 hg'.1 lt2 hh hl0 hl He.out
      rw [← hd] at hs
      obtain ⟨s1, s2, s3, s4, s5, s6, s7, s8, s9⟩ := hs
      have S9 := hid s9
      clear s9 hd
      have ha := add64_run lo (x * y % 18446744073709551616) hl0 s2
      go_wp2_with fail
      go_quiet ((go_at_call 81; exact quiet_l (mul64_any _ _ _ hg.1 hg.2 hg'.1 hg'.2)))
      go_wp2_with fail
      refine (less_any p _ _ (by omega) hp2.2 (by omega) s8).mono ?_
      rintro e w' ⟨rfl, rfl⟩
      go_wp2_with fail
      have r := mod_range (hi + x * y / 18446744073709551616 + (lo + x * y % 18446744073709551616) / 18446744073709551616) hp2.1
      go_roundw
      case rel => exact ⟨k + 1, _, _, by go_num, rfl, rfl, by omega, r.1, r.2, s6, s7, S9.out, hdw.drewN _⟩
      case measure => simp [intOf]; omega
    · obtain rfl : k = n := by omega
      have e2 := He.out
      rw [List.take_of_length_le (by rw [Hn.out]; omega), List.take_of_length_le (by rw [← Hl.out, Hn.out]; omega)] at e2
      have E2 := hid e2; clear e2
      go_wp2_with fail
      refine (left_any p hi lo _ hh0 hh (by omega) hl0 hl).mono ?_
      rintro e w' ⟨rfl, m, rfl⟩
      go_wp2_with fail
      go_ret2
      exact ⟨by rw [← E2.out]; rfl, hdw.drewN _⟩
theorem dot_yes (p : Int) (v u : Value) (xs ys : List Int) (w : World) (hv : Ints .u64 w v xs) (hu : Ints .u64 w u ys) (hx : U64s xs) (hy : U64s ys) (hl : xs.length = ys.length) (h1 : hasB p xs = true) (h2 : hasB p ys = true) :
    Calls Tryz.prog 46 #[.int .u64 p, v, u] w (Ret (.tuple #[.int .u64 (dotZ xs ys % p), .int .i64 0]) w) := RetD.ret (dot_drw p v u xs ys w hv hu hx hy hl h1 h2)
theorem div_as (p a b r : Int) (w : World) (hp : rightB p = true) (ha0 : 0 ≤ a) (ha : a < p) (hb0 : 0 ≤ b) (hb : b < p) (hub : unitB p b = true) (h : a * minv p b % p = r) :
    Calls Tryz.prog 170 #[.int .u64 p, .int .u64 a, .int .u64 b] w (Ret (.tuple #[.int .u64 r, .int .i64 0]) w) := h ▸ div_yes p a b w hp ha0 ha hb0 hb hub
theorem norm_as (p a r : Int) (w : World) (hp : rightB p = true) (ha0 : 0 ≤ a) (h : a % p = r) :
    Calls Tryz.prog 160 #[.int .u64 p, .int .u64 a] w (Ret (.tuple #[.int .u64 r, .int .i64 0]) w) := h ▸ norm_yes p a w hp ha0
theorem dot_as (p r : Int) (v u : Value) (xs ys : List Int) (w : World) (hv : Ints .u64 w v xs) (hu : Ints .u64 w u ys) (hx : U64s xs) (hy : U64s ys) (hl : xs.length = ys.length) (h1 : hasB p xs = true) (h2 : hasB p ys = true) (h : dotZ xs ys % p = r) :
    Calls Tryz.prog 46 #[.int .u64 p, v, u] w (Ret (.tuple #[.int .u64 r, .int .i64 0]) w) := h ▸ dot_yes p v u xs ys w hv hu hx hy hl h1 h2
theorem dotD_as (p r : Int) (v u : Value) (xs ys : List Int) (w : World) (hv : Ints .u64 w v xs) (hu : Ints .u64 w u ys) (hx : U64s xs) (hy : U64s ys) (hl : xs.length = ys.length) (h1 : hasB p xs = true) (h2 : hasB p ys = true) (h : dotZ xs ys % p = r) :
    Calls Tryz.prog 46 #[.int .u64 p, v, u] w (RetD (.tuple #[.int .u64 r, .int .i64 0]) w) := h ▸ dot_drw p v u xs ys w hv hu hx hy hl h1 h2
end Go.Proofs.YthomeenmcajmdaaGreatDoor
namespace Go.Proofs.YthomeenmcajmdaaGreatDoor
open Go.RowKit
theorem slice_run (b off len cap lo hi : Nat) (h1 : lo ≤ hi) (h2 : hi ≤ cap) (h3 : lo < cap) (w : World) :
    (Instr.slice 24 (.slice (some ⟨b, off, none⟩) len cap) (some (.int .i64 (lo : Int))) (some (.int .i64 (hi : Int))) none).run Tryz.prog w = .ok (.slice (some ⟨b, off + lo, none⟩) (hi - lo) (cap - lo)) w := by
  have hu : Tryz.prog.underlying 24 = some (.slice (Tryz.prog.elem 24)) := by kernel_rfl
  have hs : ((sizeOf (Tryz.prog.elem 24)).run Tryz.prog w) = .ok 1 w := by kernel_rfl
  rw [run_slice_lh w 24 _ len cap hu .i64 .i64 lo hi (by omega) (by omega) (by omega), hs]
  simp only [Result.andThen, sliced, Int.toNat_natCast]
  rw [if_neg (by omega)]
  simp [Go.WideShapes.add_plain]
theorem slice_run' (b off len cap lo hi : Nat) (h1 : lo ≤ hi) (h2 : hi ≤ cap) (h3 : lo < cap) (w : World) :
    (Instr.sliceAt 24 (.slice (some ⟨b, off, none⟩) len cap) (some (.int .i64 (lo : Int))) (some (.int .i64 (hi : Int))) none).run Tryz.prog w = .ok (.slice (some ⟨b, off + lo, none⟩) (hi - lo) (cap - lo)) w := by
  have hu : Tryz.prog.underlying 24 = some (.slice (Tryz.prog.elem 24)) := by kernel_rfl
  rw [run_sliceAt_slice w 24 _ _ _ _ hu]
  exact slice_run b off len cap lo hi h1 h2 h3 w
theorem Ints.sub {k : IntKind} {w : World} {b off m cap : Nat} {xs : List Int} (h : Ints k w (.slice (some ⟨b, off, none⟩) m cap) xs) (lo n : Nat) (hn : lo + n ≤ xs.length) (h0 : 0 < n) :
    Ints k w (.slice (some ⟨b, off + lo, none⟩) n (cap - lo)) ((xs.drop lo).take n) := by
  obtain ⟨a, cap', e, h1, h2, h3⟩ := h
  injection e with e1 e2 e3
  subst e1; subst e3
  obtain ⟨b', off', ha, hb, hc⟩ := h3 (by omega)
  injection ha with ha
  injection ha with e4 e5
  subst e4; subst e5
  have hl : ((xs.drop lo).take n).length = n := by simp; omega
  refine ⟨_, cap - lo, by rw [hl], by omega, by omega, fun _ => ⟨b, off + lo, rfl, hb, fun j hj => ?_⟩⟩
  rw [Nat.add_assoc, hc (lo + j) (by omega)]
  simp [List.getD, show j < n by omega]
theorem sub_get (xs : List Int) (lo n j : Nat) (hj : j < n) : ((xs.drop lo).take n).getD j 0 = xs.getD (lo + j) 0 := by
  simp [List.getD, hj]
theorem dotZ_sm : ∀ xs ys : List Int, xs.length = ys.length → dotZ xs ys = sm xs.length fun i => xs.getD i 0 * ys.getD i 0
  | [], [], _ => rfl
  | [], _ :: _, h => by simp at h
  | _ :: _, [], h => by simp at h
  | x :: xs, y :: ys, h => by
    rw [List.length_cons, sm_head, dotZ, dotZ_sm xs ys (by simpa using h)]
    simp
end Go.Proofs.YthomeenmcajmdaaGreatDoor
namespace Go.Proofs.YthomeenmcajmdaaGreatDoor
def Fld (p : Int) : Prop := ∀ a, 0 < a → a < p → unitB p a = true
theorem Fld.unit_lead {p : Int} (h : Fld p) {xs : List Int} (hx : Pol p xs) (h0 : xs ≠ []) : unitB p (lead xs) = true := h _ (hx.lead_range h0).1 (hx.lead_range h0).2
theorem list_ext {xs ys : List Int} (hl : xs.length = ys.length) (h : ∀ j, j < xs.length → xs.getD j 0 = ys.getD j 0) : xs = ys := by
  refine List.ext_getElem hl fun j h1 h2 => ?_
  have := h j h1
  simpa [List.getD, List.getElem?_eq_getElem h1, List.getElem?_eq_getElem h2] using this
end Go.Proofs.YthomeenmcajmdaaGreatDoor
namespace Go.Proofs.YthomeenmcajmdaaGreatDoor
variable {p : Int}
def tab (n : Nat) (f : Nat → Int) : List Int := (List.range n).map f
theorem tab_len (n : Nat) (f : Nat → Int) : (tab n f).length = n := by simp [tab]
theorem tab_get {n k : Nat} (f : Nat → Int) (h : k < n) : (tab n f).getD k 0 = f k := by simp [tab, List.getD, h]
theorem tab_succ (n : Nat) (f : Nat → Int) : tab (n + 1) f = tab n f ++ [f n] := by simp [tab, List.range_succ]
theorem tab_congr {n : Nat} {f g : Nat → Int} (h : ∀ k, k < n → f k = g k) : tab n f = tab n g := by
  unfold tab
  exact List.map_congr_left fun k hk => h k (List.mem_range.1 hk)
theorem tab_of {n : Nat} {l : List Int} {f : Nat → Int} (hl : l.length = n) (h : ∀ k, k < n → l.getD k 0 = f k) : l = tab n f :=
  list_ext (by rw [hl, tab_len]) fun k hk => by rw [tab_get f (by omega), h k (by omega)]
theorem tab_rng {n : Nat} {f : Nat → Int} (h : ∀ k, k < n → 0 ≤ f k ∧ f k < p) : Rng p (tab n f) := Rng.of_get fun k hk => by
  rw [tab_len] at hk
  rw [tab_get f hk]; exact h k hk
theorem at_div {c i k : Nat} (h : k < c) : (i * c + k) / c = i := by
  rw [Nat.add_comm, Nat.add_mul_div_right _ _ (by omega), Nat.div_eq_of_lt h, Nat.zero_add]
theorem at_mod {c i k : Nat} (h : k < c) : (i * c + k) % c = k := by
  rw [Nat.add_comm, Nat.add_mul_mod_self_right, Nat.mod_eq_of_lt h]
theorem at_lt {r c i k : Nat} (hi : i < r) (hk : k < c) : i * c + k < r * c := by
  have := Nat.mul_le_mul_right c (show i + 1 ≤ r by omega)
  rw [Nat.add_mul] at this
  omega
theorem lt_div {r c t : Nat} (h : t < r * c) : t / c < r := Nat.div_lt_of_lt_mul (by rw [Nat.mul_comm]; exact h)
theorem lt_mod {r c t : Nat} (h : t < r * c) : t % c < c := Nat.mod_lt _ (by
  rcases Nat.eq_zero_or_pos c with h0 | h0
  · rw [h0] at h; simp at h
  · exact h0)
def grid (r c : Nat) (M : Nat → Nat → Int) : List Int := tab (r * c) fun t => M (t / c) (t % c)
theorem grid_len (r c : Nat) (M : Nat → Nat → Int) : (grid r c M).length = r * c := tab_len _ _
theorem grid_get {r c i k : Nat} (M : Nat → Nat → Int) (hi : i < r) (hk : k < c) : (grid r c M).getD (i * c + k) 0 = M i k := by
  unfold grid
  rw [tab_get _ (at_lt hi hk), at_div hk, at_mod hk]
theorem grid_congr {r c : Nat} {M N : Nat → Nat → Int} (h : ∀ i k, i < r → k < c → M i k = N i k) : grid r c M = grid r c N :=
  tab_congr fun _ ht => h _ _ (lt_div ht) (lt_mod ht)
theorem grid_of {r c : Nat} {l : List Int} {M : Nat → Nat → Int} (hl : l.length = r * c) (h : ∀ i k, i < r → k < c → l.getD (i * c + k) 0 = M i k) : l = grid r c M :=
  tab_of hl fun t ht => by
    have := h (t / c) (t % c) (lt_div ht) (lt_mod ht)
    rw [Nat.mul_comm, Nat.div_add_mod] at this
    exact this
theorem grid_self {r c : Nat} {l : List Int} (hl : l.length = r * c) : grid r c (fun i k => l.getD (i * c + k) 0) = l := (grid_of hl fun _ _ _ _ => rfl).symm
theorem grid_rng {r c : Nat} {M : Nat → Nat → Int} (h : ∀ i k, i < r → k < c → 0 ≤ M i k ∧ M i k < p) : Rng p (grid r c M) :=
  tab_rng fun _ ht => h _ _ (lt_div ht) (lt_mod ht)
theorem sm_comm (f : Nat → Nat → Int) : ∀ m n : Nat, sm m (fun i => sm n fun j => f i j) = sm n fun j => sm m fun i => f i j
  | 0, n => by
    exact (sm_zero fun _ _ => rfl).symm
  | m + 1, n => by
    show sm m (fun i => sm n fun j => f i j) + sm n (fun j => f m j) = _
    rw [sm_comm f m n, ← sm_add]
    rfl
theorem sm_single {n i : Nat} (g : Nat → Int) (h : i < n) : sm n (fun k => if k = i then g k else 0) = g i := by
  rw [sm_piece i 1 (by omega) (fun k hk => if_neg (by omega)) (fun k h1 h2 => if_neg (by omega))]
  simp [sm]
def dv (p : Int) (n : Nat) (a x : Nat → Int) : Int := (sm n fun k => a k * x k) % p
theorem dv_congr {n : Nat} {a b x y : Nat → Int} (h : ∀ k, k < n → a k = b k) (h' : ∀ k, k < n → x k = y k) : dv p n a x = dv p n b y := by
  unfold dv; rw [sm_congr fun k hk => by rw [h k hk, h' k hk]]
theorem dv_comm (n : Nat) (a x : Nat → Int) : dv p n a x = dv p n x a := by
  unfold dv; rw [sm_congr fun k _ => Int.mul_comm (a k) (x k)]
theorem dv_range (hp : 2 ≤ p) (n : Nat) (a x : Nat → Int) : 0 ≤ dv p n a x ∧ dv p n a x < p := mod_range _ hp
theorem dv_assoc (n m : Nat) (a x : Nat → Int) (b : Nat → Nat → Int) : dv p n a (fun k => dv p m (b k) x) = dv p m (fun j => dv p n a fun k => b k j) x := by
  have e1 : dv p n a (fun k => dv p m (b k) x) = (sm n fun k => sm m fun j => a k * (b k j * x j)) % p := by
    unfold dv
    exact sm_mod fun k _ => by rw [mm_r, sm_mul]
  have e2 : dv p m (fun j => dv p n a fun k => b k j) x = (sm m fun j => sm n fun k => a k * (b k j * x j)) % p := by
    unfold dv
    refine sm_mod fun j _ => ?_
    rw [mm_l, ← sm_mul_r]
    rw [sm_congr fun k _ => Int.mul_assoc (a k) (b k j) (x j)]
  rw [e1, e2, sm_comm]
theorem dv_one {n i : Nat} (x : Nat → Int) (h : i < n) : dv p n (fun k => if k = i then 1 else 0) x = x i % p := by
  unfold dv
  rw [sm_congr (g := fun k => if k = i then x k else 0) fun k _ => by
    show (if k = i then 1 else 0) * x k = if k = i then x k else 0
    by_cases e : k = i
    · rw [if_pos e, if_pos e, Int.one_mul]
    · rw [if_neg e, if_neg e, Int.zero_mul], sm_single x h]
theorem dv_dotZ {xs ys : List Int} {n : Nat} (h : xs.length = n) (h' : ys.length = n) : dotZ xs ys % p = dv p n (fun k => xs.getD k 0) fun k => ys.getD k 0 := by
  rw [dotZ_sm xs ys (by omega), h]; rfl
end Go.Proofs.YthomeenmcajmdaaGreatDoor
namespace Go.Proofs.YthomeenmcajmdaaGreatDoor
open Go.RowKit
set_option maxHeartbeats 400000 in
theorem rAdd (p a b r : Int) (w : World) (hp : rightB p = true) (ha0 : 0 ≤ a) (ha : a < p) (hb0 : 0 ≤ b) (hb : b < p) (h : (a + b) % p = r) :
    Calls Tryz.prog 44 #[.int .u64 p, .int .u64 a, .int .u64 b] w fun e w' => e = .returned (.int .u64 r) ∧ w = w' := by
  have hp2 := rightB_true hp
  have hp3 : p ≠ 0 := by omega
  have H := hid h
  clear h hp
  go_enter Tryz.func44, Tryz.ntmps44
  go_wp2_with fail
  go_ret
  exact ⟨ret_int H.out, rfl⟩
theorem half_even {p a b h : Int} (hh : a * (b / 2) % p = h) (hb : b % 2 = 0) : (h + h) % p = a * b % p := by
  rw [← hh, ma_l, ma_r]
  congr 1
  have : b = b / 2 * 2 := by omega
  generalize b / 2 = c at *
  subst this; grind
theorem half_odd {p a b h g : Int} (hh : a * (b / 2) % p = h) (hg : (h + h) % p = g) (hb : b % 2 = 1) : (g + a) % p = a * b % p := by
  rw [← hg, ← hh, ma_l]
  have : b = b / 2 * 2 + 1 := by omega
  generalize b / 2 = c at *
  rw [mod_eq_iff]
  have e := Int.emod_def (a * c) p
  refine ⟨-2 * (a * c / p), ?_⟩
  rw [e, this]; grind
set_option maxHeartbeats 1000000 in
theorem rMul_all (n : Nat) : ∀ (p a b : Int) (w : World), b.toNat ≤ n → rightB p = true → 0 ≤ a → a < p → 0 ≤ b → b ≤ 18446744073709551615 →
    Calls Tryz.prog 20 #[.int .u64 p, .int .u64 a, .int .u64 b] w fun e w' => e = .returned (.int .u64 (a * b % p)) ∧ w = w' := by
  induction n with
  | zero =>
    intro p a b w hn hp ha0 ha hb0 hb
    obtain rfl : b = 0 := by omega
    go_enter Tryz.func20, Tryz.ntmps20
    go_wp2_with fail
    go_ret
    exact ⟨ret_int (by simp), rfl⟩
  | succ n ih =>
    intro p a b w hn hp ha0 ha hb0 hb
    by_cases h0 : b = 0
    · subst h0
      go_enter Tryz.func20, Tryz.ntmps20
      go_wp2_with fail
      go_ret
      exact ⟨ret_int (by simp), rfl⟩
    · have hp2 := rightB_true hp
      have t0 : (b == 0) = false := by simpa using h0
      have Ih := hid ih; clear ih
      obtain ⟨h, eh, h1, h2⟩ := name_mod (a * (b / 2)) hp2.1
      obtain ⟨g, eg, g1, g2⟩ := name_mod (h + h) hp2.1
      by_cases hb2 : b % 2 = 1
      · have t1 : (b % 2 == 1) = true := by simpa using hb2
        have E := hid (half_odd eh eg hb2)
        obtain ⟨r, er, r1, r2⟩ := name_mod (g + a) hp2.1
        have Er := hid er; have Eh := hid eh; have Eg := hid eg; have Hp := hid hp
        rw [er] at E
        clear hp eh eg er hb2 h0
        go_enter Tryz.func20, Tryz.ntmps20
        go_wp2_with fail
        refine (Ih.out p a (b / 2) _ (by omega) Hp.out ha0 ha (by omega) (by omega)).mono ?_
        rw [Eh.out]; rintro _ _ ⟨rfl, rfl⟩
        go_wp2_with fail
        refine (rAdd p h h g _ Hp.out h1 h2 h1 h2 Eg.out).mono ?_; rintro _ _ ⟨rfl, rfl⟩
        go_wp2_with fail
        refine (rAdd p g a r _ Hp.out g1 g2 ha0 ha Er.out).mono ?_; rintro _ _ ⟨rfl, rfl⟩
        go_wp2_with fail
        go_ret
        exact ⟨ret_int E.out, rfl⟩
      · have t1 : (b % 2 == 1) = false := by simpa using hb2
        have E := hid (half_even eh (by omega))
        rw [eg] at E
        have Eh := hid eh; have Eg := hid eg; have Hp := hid hp
        clear hp eh eg hb2 h0
        go_enter Tryz.func20, Tryz.ntmps20
        go_wp2_with fail
        refine (Ih.out p a (b / 2) _ (by omega) Hp.out ha0 ha (by omega) (by omega)).mono ?_
        rw [Eh.out]; rintro _ _ ⟨rfl, rfl⟩
        go_wp2_with fail
        refine (rAdd p h h g _ Hp.out h1 h2 h1 h2 Eg.out).mono ?_; rintro _ _ ⟨rfl, rfl⟩
        go_wp2_with fail
        go_ret
        exact ⟨ret_int E.out, rfl⟩
end Go.Proofs.YthomeenmcajmdaaGreatDoor
