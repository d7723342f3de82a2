/- FieldRight: whatever the numbers and lists, the law answers true, and nothing that was there has turned. No condition. -/
import Derived.Test.YtobibegjalfjoaaAwake01
import Derived.Test.YtobibegjalfjoaaRef01
namespace Go.Proofs.Ytobibegjalfjoaa.fieldRight
open Go.ChangeShapes Go.WideShapes Go.ChangeAt Go.RowKit

/-! what each call answers, right or wrong -/
def addV (p a b : Int) : Int := if hasB p [a, b] then (a + b) % p else 0
def subV (p a b : Int) : Int := if hasB p [a, b] then (a - b) % p else 0
def mulV (p a b : Int) : Int := if hasB p [a, b] then a * b % p else 0
def powV (p a n : Int) : Int := if hasB p [a] then mpow p a n else 0
noncomputable def invV (p a : Int) : Int := if hasB p [a] && unitB p a then minv p a else 0
noncomputable def divV (p a b : Int) : Int := if hasB p [a, b] && unitB p b then a * minv p b % p else 0
def normV (p n : Int) : Int := if rightB p then n % p else 0
def err (b : Bool) : Int := if b then 0 else 1
def invE (b u : Bool) : Int := if b then (if u then 0 else 5) else 1
def dotB (p : Int) (xs ys : List Int) : Bool := decide (xs.length = ys.length) && hasB p xs && hasB p ys
def dotV (p : Int) (xs ys : List Int) : Int := if dotB p xs ys then dotZ xs ys % p else 0

theorem two {p a b : Int} (h : hasB p [a, b] = true) : rightB p = true ∧ a < p ∧ b < p :=
  ⟨(hasB_true h).1, (hasB_true h).2 a (by simp), (hasB_true h).2 b (by simp)⟩
theorem one {p a : Int} (h : hasB p [a] = true) : rightB p = true ∧ a < p := ⟨(hasB_true h).1, (hasB_true h).2 a (by simp)⟩
section
variable (p a b n : Int) (w : World) (hp0 : 0 ≤ p) (hp : p ≤ 18446744073709551615) (ha0 : 0 ≤ a) (ha : a ≤ 18446744073709551615) (hb0 : 0 ≤ b) (hb : b ≤ 18446744073709551615) (hn0 : 0 ≤ n) (hn : n ≤ 18446744073709551615)
include hp0 hp ha0 ha hb0 hb
theorem add_gen : Calls Try.prog 10 #[.int .u64 p, .int .u64 a, .int .u64 b] w (Ret (.tuple #[.int .u64 (addV p a b), .int .i64 (err (hasB p [a, b]))]) w) := by
  cases h : hasB p [a, b] with
  | false => simpa [addV, err, h] using add_no p a b w hp0 hp ha0 ha hb0 hb h
  | true => simpa [addV, err, h] using add_yes p a b w (two h).1 ha0 (two h).2.1 hb0 (two h).2.2
theorem sub_gen : Calls Try.prog 11 #[.int .u64 p, .int .u64 a, .int .u64 b] w (Ret (.tuple #[.int .u64 (subV p a b), .int .i64 (err (hasB p [a, b]))]) w) := by
  cases h : hasB p [a, b] with
  | false => simpa [subV, err, h] using sub_no p a b w hp0 hp ha0 ha hb0 hb h
  | true => simpa [subV, err, h] using sub_yes p a b w (two h).1 ha0 (two h).2.1 hb0 (two h).2.2
theorem mul_gen : Calls Try.prog 12 #[.int .u64 p, .int .u64 a, .int .u64 b] w (Ret (.tuple #[.int .u64 (mulV p a b), .int .i64 (err (hasB p [a, b]))]) w) := by
  cases h : hasB p [a, b] with
  | false => simpa [mulV, err, h] using mul_no p a b w hp0 hp ha0 ha hb0 hb h
  | true => simpa [mulV, err, h] using mul_yes p a b w (two h).1 ha0 (two h).2.1 hb0 (two h).2.2
theorem div_gen : Calls Try.prog 15 #[.int .u64 p, .int .u64 a, .int .u64 b] w (Ret (.tuple #[.int .u64 (divV p a b), .int .i64 (invE (hasB p [a, b]) (unitB p b))]) w) := by
  cases h : hasB p [a, b] with
  | false => simpa [divV, invE, h] using div_no p a b w hp0 hp ha0 ha hb0 hb h
  | true =>
    cases hu : unitB p b with
    | false => simpa [divV, invE, h, hu] using div_zero p a b w (two h).1 ha0 (two h).2.1 hb0 (two h).2.2 hu
    | true => simpa [divV, invE, h, hu] using div_yes p a b w (two h).1 ha0 (two h).2.1 hb0 (two h).2.2 hu
omit hb0 hb
theorem inv_gen : Calls Try.prog 14 #[.int .u64 p, .int .u64 a] w (Ret (.tuple #[.int .u64 (invV p a), .int .i64 (invE (hasB p [a]) (unitB p a))]) w) := by
  cases h : hasB p [a] with
  | false => simpa [invV, invE, h] using inv_no p a w hp0 hp ha0 ha h
  | true =>
    cases hu : unitB p a with
    | false => simpa [invV, invE, h, hu] using inv_zero p a w (one h).1 ha0 (one h).2 hu
    | true => simpa [invV, invE, h, hu] using inv_yes p a w (one h).1 ha0 (one h).2 hu
include hn0 hn
theorem pow_gen : Calls Try.prog 13 #[.int .u64 p, .int .u64 a, .int .u64 n] w (Ret (.tuple #[.int .u64 (powV p a n), .int .i64 (err (hasB p [a]))]) w) := by
  cases h : hasB p [a] with
  | false => simpa [powV, err, h] using pow_no p a n w hp0 hp ha0 ha h
  | true => simpa [powV, err, h] using pow_yes p a n w (one h).1 ha0 (one h).2 hn0 hn
omit ha0 ha hn
theorem norm_gen : Calls Try.prog 16 #[.int .u64 p, .int .u64 n] w (Ret (.tuple #[.int .u64 (normV p n), .int .i64 (err (rightB p))]) w) := by
  cases h : rightB p with
  | false => simpa [normV, err, h] using norm_no p n w hp0 hp h
  | true => simpa [normV, err, h] using norm_yes p n w h hn0
end
theorem dot_gen (p : Int) (v u : Value) (xs ys : List Int) (w : World) (hp0 : 0 ≤ p) (hp : p ≤ 18446744073709551615) (hv : Ints .u64 w v xs) (hu : Ints .u64 w u ys) (hx : U64s xs) (hy : U64s ys) :
    Calls Try.prog 17 #[.int .u64 p, v, u] w (Ret (.tuple #[.int .u64 (dotV p xs ys), .int .i64 (err (dotB p xs ys))]) w) := by
  cases h : dotB p xs ys with
  | false =>
    have h' : xs.length ≠ ys.length ∨ hasB p xs = false ∨ hasB p ys = false := by
      by_cases hl : xs.length = ys.length
      · cases h1 : hasB p xs with
        | false => exact .inr (.inl rfl)
        | true => cases h2 : hasB p ys with
          | false => exact .inr (.inr rfl)
          | true => simp [dotB, hl, h1, h2] at h
      · exact .inl hl
    simpa [dotV, err, h] using dot_no p v u xs ys w hp0 hp hv hu hx hy h'
  | true =>
    have h' : (xs.length = ys.length ∧ hasB p xs = true) ∧ hasB p ys = true := by simpa [dotB] using h
    simpa [dotV, err, h] using dot_yes p v u xs ys w hv hu hx hy h'.1.1 h'.1.2 h'.2

set_option maxRecDepth 100000 in
set_option maxHeartbeats 4000000 in
theorem walk_main (p a b n : Int) (v u : Value) (xs ys : List Int) (w : World) (hp0 : 0 ≤ p) (hp : p ≤ 18446744073709551615) (ha0 : 0 ≤ a) (ha : a ≤ 18446744073709551615) (hb0 : 0 ≤ b) (hb : b ≤ 18446744073709551615) (hn0 : 0 ≤ n) (hn : n ≤ 18446744073709551615)
    (hv : Ints .u64 w v xs) (hu : Ints .u64 w u ys) (hx : U64s xs) (hy : U64s ys) (hlx : xs.length ≤ 60) (hly : ys.length ≤ 60) : Calls Try.prog 3 #[.int .u64 p, .int .u64 a, .int .u64 b, .int .u64 n, v, u] w (Ret (.bool true) w) := by
  have Hv := hid hv; have Hu := hid hu
  obtain ⟨q, cap, rfl, k1, k2, k3⟩ := hv
  obtain ⟨q', cap', rfl, k1', k2', k3'⟩ := hu
  clear k1 k2 k3 k1' k2' k3'
  have Hx := hid hx; have Hy := hid hy; clear hx hy
  obtain ⟨lx, elx⟩ : ∃ lx, xs.length = lx := ⟨_, rfl⟩
  obtain ⟨ly, ely⟩ : ∃ ly, ys.length = ly := ⟨_, rfl⟩
  rw [elx] at Hv hlx ⊢
  rw [ely] at Hu hly ⊢
  have Elx := hid elx; have Ely := hid ely; clear elx ely
  obtain ⟨R, eR⟩ : ∃ R, rightB p = R := ⟨_, rfl⟩
  obtain ⟨HX, eHX⟩ : ∃ R, hasB p xs = R := ⟨_, rfl⟩
  obtain ⟨D, eD⟩ : ∃ D, dotB p xs ys = D := ⟨_, rfl⟩
  obtain ⟨T, eT⟩ : ∃ T, dotV p xs ys = T := ⟨_, rfl⟩
  obtain ⟨E, eE⟩ : ∃ E, err (dotB p xs ys) = E := ⟨_, rfl⟩
  have ED := hid eD; have ET := hid eT; have EE := hid eE; clear eD eT eE
  have ER := hid eR; have EHX := hid eHX; clear eR eHX
  go_enter Try.func3, Try.ntmps3
  go_wp2_with fail
  refine (awake01 _).mono ?_; rintro _ w1 ⟨rfl, h1⟩
  go_wp2_with fail
  refine (add_gen p a b _ hp0 hp ha0 ha hb0 hb).mono ?_; rintro _ w2 ⟨rfl, h2⟩
  go_wp2_with fail
  refine (sub_gen p a b _ hp0 hp ha0 ha hb0 hb).mono ?_; rintro _ w3 ⟨rfl, h3⟩
  go_wp2_with fail
  refine (mul_gen p a b _ hp0 hp ha0 ha hb0 hb).mono ?_; rintro _ w4 ⟨rfl, h4⟩
  go_wp2_with fail
  refine (pow_gen p a n _ hp0 hp ha0 ha hn0 hn).mono ?_; rintro _ w5 ⟨rfl, h5⟩
  go_wp2_with fail
  refine (inv_gen p a _ hp0 hp ha0 ha).mono ?_; rintro _ w6 ⟨rfl, h6⟩
  go_wp2_with fail
  refine (div_gen p a b _ hp0 hp ha0 ha hb0 hb).mono ?_; rintro _ w7 ⟨rfl, h7⟩
  go_wp2_with fail
  refine (norm_gen p n _ hp0 hp hn0).mono ?_; rintro _ w8 ⟨rfl, h8⟩
  go_wp2_with fail
  have h8' : Ext w w8 := (by repeat (first | exact Ext.refl _ | assumption | refine Ext.drew ?_ | refine Ext.drewN ?_ _ | refine Ext.alloc ?_ _ | refine Ext.trans ?_ (by assumption)))
  refine (dot_gen p _ _ xs ys _ hp0 hp (Hv.out.ext h8') (Hu.out.ext h8') Hx.out Hy.out).mono ?_; rw [ET.out, EE.out]; rintro _ w9 ⟨rfl, h9⟩
  go_wp2_with fail
  have h9' : Ext w w9 := Ext.trans h8' h9
  clear h1 h2 h3 h4 h5 h6 h7 h8 h9 h8'
  refine (right_any p _ hp0 hp).mono ?_; rw [ER.out]; rintro _ _ ⟨rfl, rfl⟩
  go_wp2_with fail
  refine (rRight p _ hp0 hp).mono ?_; rw [ER.out]; rintro _ _ ⟨rfl, rfl⟩
  go_wp2_with fail
  refine (has_any p _ xs _ hp0 hp (Hv.out.ext h9') Hx.out).mono ?_; rw [EHX.out]; rintro _ _ ⟨rfl, rfl⟩
  go_wp2_with fail
  refine (rHas p _ xs _ hp0 hp (Hv.out.ext h9') Hx.out).mono ?_; rw [EHX.out]; rintro _ _ ⟨rfl, rfl⟩
  go_upto_region 15 with fail
  go_cut [127] (fun t w' => t = .bool (!D) ∧ Ext w w')
  case first =>
    cases HX with
    | false =>
      have hD : D = false := by rw [← ED.out]; simp [dotB, EHX.out]
      subst hD
      as_aux_lemma =>
        go_wp2_with fail
        refine (rHas p _ xs _ hp0 hp (Hv.out.ext h9') Hx.out).mono ?_; rw [EHX.out]; rintro _ _ ⟨rfl, rfl⟩
        go_wp2_with fail
        go_meet
        exact ⟨rfl, h9'⟩
    | true =>
      cases hy : hasB p ys with
      | false =>
        have hD : D = false := by rw [← ED.out]; simp [dotB, hy]
        subst hD
        have Hhy := hid hy; clear hy
        as_aux_lemma =>
          go_wp2_with fail
          refine (rHas p _ xs _ hp0 hp (Hv.out.ext h9') Hx.out).mono ?_; rw [EHX.out]; rintro _ _ ⟨rfl, rfl⟩
          go_wp2_with fail
          refine (rHas p _ ys _ hp0 hp (Hu.out.ext h9') Hy.out).mono ?_; rw [Hhy.out]; rintro _ _ ⟨rfl, rfl⟩
          go_wp2_with fail
          go_meet
          exact ⟨rfl, h9'⟩
      | true =>
        have hD : D = decide (lx = ly) := by rw [← ED.out]; simp [dotB, hy, EHX.out, Elx.out, Ely.out]
        have Hhy := hid hy; clear hy
        by_cases hl : lx = ly
        · rw [decide_eq_true hl] at hD
          subst hD
          have t1 : ((lx : Int) != (ly : Int)) = false := by simp [hl]
          clear hl
          as_aux_lemma =>
            go_wp2_with fail
            refine (rHas p _ xs _ hp0 hp (Hv.out.ext h9') Hx.out).mono ?_; rw [EHX.out]; rintro _ _ ⟨rfl, rfl⟩
            go_wp2_with fail
            refine (rHas p _ ys _ hp0 hp (Hu.out.ext h9') Hy.out).mono ?_; rw [Hhy.out]; rintro _ _ ⟨rfl, rfl⟩
            go_wp2_with fail
            go_meet
            exact ⟨rfl, h9'⟩
        · rw [decide_eq_false hl] at hD
          subst hD
          have t1 : ((lx : Int) != (ly : Int)) = true := by simp; omega
          clear hl
          as_aux_lemma =>
            go_wp2_with fail
            refine (rHas p _ xs _ hp0 hp (Hv.out.ext h9') Hx.out).mono ?_; rw [EHX.out]; rintro _ _ ⟨rfl, rfl⟩
            go_wp2_with fail
            refine (rHas p _ ys _ hp0 hp (Hu.out.ext h9') Hy.out).mono ?_; rw [Hhy.out]; rintro _ _ ⟨rfl, rfl⟩
            go_wp2_with fail
            go_meet
            exact ⟨rfl, h9'⟩
  case rest =>
    obtain ⟨rfl, hwc⟩ := hcut
    clear h9'
    go_upto_if 127 with fail
    go_cut [] (fun w' => Ext w w')
    case first =>
      cases D with
      | false =>
        have e0 : T = 0 := by rw [← ET.out]; unfold dotV; rw [ED.out]; rfl
        have e1 : E = 1 := by rw [← EE.out, ED.out]; rfl
        have t0 : (T == 0) = true := by simp [e0]
        have t0' : (T != 0) = false := by simp [e0]
        have t1 : (E == 1) = true := by simp [e1]
        have t1' : (E != 1) = false := by simp [e1]
        clear e0 e1
        as_aux_lemma =>
          go_wp2_with fail
          go_meet
          exact hwc
      | true =>
        have hd : (xs.length = ys.length ∧ hasB p xs = true) ∧ hasB p ys = true := by simpa [dotB] using ED.out
        have Hd := hid hd; clear hd
        have e3 : dotZ xs ys % p = T := by rw [← ET.out]; unfold dotV; rw [ED.out]; rfl
        have e1 : E = 0 := by rw [← EE.out, ED.out]; rfl
        have t1 : (E == 0) = true := by simp [e1]
        have t1' : (E != 0) = false := by simp [e1]
        have E3 := hid e3; clear e3 e1
        as_aux_lemma =>
          go_wp2_with fail
          refine (rDot p T _ _ xs ys _ (Hv.out.ext hwc) (Hu.out.ext hwc) Hx.out Hy.out Hd.out.1.1 Hd.out.1.2 Hd.out.2 E3.out).mono ?_; rintro _ w1 ⟨rfl, h1⟩
          go_wp2_with fail
          go_meet
          exact (by repeat (first | exact Ext.refl _ | assumption | refine Ext.drew ?_ | refine Ext.drewN ?_ _ | refine Ext.alloc ?_ _ | refine Ext.trans ?_ (by assumption)))
    case rest =>
      have hw2 : Ext w wc := by assumption
      clear ED ET EE Hv Hu Hx Hy
      have q0 : err false = 1 := rfl
      have q1 : err true = 0 := rfl
      cases R with
      | false =>
        have hr := ER.out
        have h2 : hasB p [a, b] = false := by simp [hasB, hr]
        have h1 : hasB p [a] = false := by simp [hasB, hr]
        have v1 : addV p a b = 0 := by simp [addV, h2]
        have v2 : subV p a b = 0 := by simp [subV, h2]
        have v3 : mulV p a b = 0 := by simp [mulV, h2]
        have v4 : powV p a n = 0 := by simp [powV, h1]
        have v5 : invV p a = 0 := by simp [invV, h1]
        have v6 : divV p a b = 0 := by simp [divV, h2]
        have v7 : normV p n = 0 := by simp [normV, hr]
        have q3 : ∀ u, invE false u = 1 := fun _ => rfl
        clear hr
        as_aux_lemma =>
          go_wp2_with fail
          refine (rRight p _ hp0 hp).mono ?_; rw [ER.out]; rintro _ _ ⟨rfl, rfl⟩
          go_wp2_with fail
          go_ret
          exact ⟨rfl, hw2⟩
      | true =>
        have hp2 := rightB_true ER.out
        have hp3 : p ≠ 0 := by omega
        have v7 : normV p n = n % p := by simp [normV, ER.out]
        by_cases hap : a < p
        · have h1 : hasB p [a] = true := hasB_one ER.out hap
          obtain ⟨U, eU⟩ : ∃ U, unitB p a = U := ⟨_, rfl⟩
          obtain ⟨x, ex⟩ : ∃ x, invV p a = x := ⟨_, rfl⟩
          obtain ⟨y, ey⟩ : ∃ y, invE true U = y := ⟨_, rfl⟩
          have y1 : 0 ≤ y ∧ y ≤ 5 := by rw [← ey]; unfold invE; cases U <;> decide
          have hinv : ∀ W, Calls Try.prog 23 #[.int .u64 p, .int .u64 a] W (Ret (.tuple #[.int .u64 x, .int .i64 y]) W) := by
            intro W
            rw [← ex, ← ey]
            cases hu : U with
            | false => simpa [invV, invE, h1, eU, hu] using rInv_zero p a W ER.out ha0 hap (by rw [eU, hu])
            | true => simpa [invV, invE, h1, eU, hu] using rInv_yes p a W ER.out ha0 hap (by rw [eU, hu])
          obtain ⟨z, ez⟩ : ∃ z, powV p a n = z := ⟨_, rfl⟩
          have ez' : mpow p a n = z := by rw [← ez]; simp [powV, h1]
          have Ez' := hid ez'; have Hinv := hid hinv
          clear ez' hinv
          by_cases hbp : b < p
          · have h2 : hasB p [a, b] = true := hasB_two ER.out hap hbp
            have hb1 : hasB p [b] = true := hasB_one ER.out hbp
            obtain ⟨s1, v1⟩ : ∃ z, addV p a b = z := ⟨_, rfl⟩
            obtain ⟨s2, v2⟩ : ∃ z, subV p a b = z := ⟨_, rfl⟩
            obtain ⟨s3, v3⟩ : ∃ z, mulV p a b = z := ⟨_, rfl⟩
            have v1' : (a + b) % p = s1 := by rw [← v1]; simp [addV, h2]
            have v2' : (a - b) % p = s2 := by rw [← v2]; simp [subV, h2]
            have v3' : a * b % p = s3 := by rw [← v3]; simp [mulV, h2]
            have V1 := hid v1'; have V2 := hid v2'; have V3 := hid v3'
            clear v1' v2' v3' hb1
            cases hub : unitB p b with
            | false =>
              have v6 : divV p a b = 0 := by simp [divV, h2, hub]
              have q3 : invE true false = 5 := rfl
              have Hub := hid hub
              as_aux_lemma =>
                go_wp2_with fail
                refine (rRight p _ hp0 hp).mono ?_; rw [ER.out]; rintro _ _ ⟨rfl, rfl⟩
                go_wp2_with fail
                refine (Hinv.out _).mono ?_; rintro _ w1 ⟨rfl, h5⟩
                go_wp2_with fail
                refine (rPow p a n z _ ER.out ha0 hap hn0 hn Ez'.out).mono ?_; rintro _ _ ⟨rfl, rfl⟩
                go_wp2_with fail
                refine (rInv_zero p b _ ER.out hb0 hbp Hub.out).mono ?_; rintro _ w2 ⟨rfl, h6⟩
                go_wp2_with fail
                refine (rAdd p a b s1 _ ER.out ha0 hap hb0 hbp V1.out).mono ?_; rintro _ _ ⟨rfl, rfl⟩
                go_wp2_with fail
                refine (rSub p a b s2 _ ER.out ha0 hap hb0 hbp V2.out).mono ?_; rintro _ _ ⟨rfl, rfl⟩
                go_wp2_with fail
                refine (rMul p a b s3 _ ER.out ha0 hap hb0 (by omega) V3.out).mono ?_; rintro _ _ ⟨rfl, rfl⟩
                go_wp2_with fail
                go_ret
                exact ⟨rfl, (by repeat (first | exact Ext.refl _ | assumption | refine Ext.drew ?_ | refine Ext.drewN ?_ _ | refine Ext.alloc ?_ _ | refine Ext.trans ?_ (by assumption)))⟩
            | true =>
              obtain ⟨s4, v6⟩ : ∃ z, divV p a b = z := ⟨_, rfl⟩
              have v6' : a * minv p b % p = s4 := by rw [← v6]; simp [divV, h2, hub]
              obtain ⟨i, ei⟩ : ∃ i, minv p b = i := ⟨_, rfl⟩
              have hi := minv_range p b hp2.1
              rw [ei] at v6' hi
              have V6 := hid v6'; have Ei := hid ei; clear v6' ei
              have q3 : invE true true = 0 := rfl
              have Hub := hid hub
              as_aux_lemma =>
                go_wp2_with fail
                refine (rRight p _ hp0 hp).mono ?_; rw [ER.out]; rintro _ _ ⟨rfl, rfl⟩
                go_wp2_with fail
                refine (Hinv.out _).mono ?_; rintro _ w1 ⟨rfl, h5⟩
                go_wp2_with fail
                refine (rPow p a n z _ ER.out ha0 hap hn0 hn Ez'.out).mono ?_; rintro _ _ ⟨rfl, rfl⟩
                go_wp2_with fail
                refine (rInv_yes p b _ ER.out hb0 hbp Hub.out).mono ?_; rw [Ei.out]; rintro _ w2 ⟨rfl, h6⟩
                go_wp2_with fail
                refine (rAdd p a b s1 _ ER.out ha0 hap hb0 hbp V1.out).mono ?_; rintro _ _ ⟨rfl, rfl⟩
                go_wp2_with fail
                refine (rSub p a b s2 _ ER.out ha0 hap hb0 hbp V2.out).mono ?_; rintro _ _ ⟨rfl, rfl⟩
                go_wp2_with fail
                refine (rMul p a b s3 _ ER.out ha0 hap hb0 (by omega) V3.out).mono ?_; rintro _ _ ⟨rfl, rfl⟩
                go_wp2_with fail
                refine (rMul p a i s4 _ ER.out ha0 hap hi.1 (by omega) V6.out).mono ?_; rintro _ _ ⟨rfl, rfl⟩
                go_wp2_with fail
                go_ret
                exact ⟨rfl, (by repeat (first | exact Ext.refl _ | assumption | refine Ext.drew ?_ | refine Ext.drewN ?_ _ | refine Ext.alloc ?_ _ | refine Ext.trans ?_ (by assumption)))⟩
          · have h2 : hasB p [a, b] = false := hasB_no 1 (by simp) (by show p ≤ b; omega)
            have q3 : ∀ u, invE false u = 1 := fun _ => rfl
            as_aux_lemma =>
              go_wp2_with fail
              refine (rRight p _ hp0 hp).mono ?_; rw [ER.out]; rintro _ _ ⟨rfl, rfl⟩
              go_wp2_with fail
              refine (Hinv.out _).mono ?_; rintro _ w1 ⟨rfl, h5⟩
              go_wp2_with fail
              refine (rPow p a n z _ ER.out ha0 hap hn0 hn Ez'.out).mono ?_; rintro _ _ ⟨rfl, rfl⟩
              go_wp2_with fail
              go_ret
              exact ⟨rfl, (by repeat (first | exact Ext.refl _ | assumption | refine Ext.drew ?_ | refine Ext.drewN ?_ _ | refine Ext.alloc ?_ _ | refine Ext.trans ?_ (by assumption)))⟩
        · have h2 : hasB p [a, b] = false := hasB_no 0 (by simp) (by show p ≤ a; omega)
          have h1 : hasB p [a] = false := hasB_no 0 (by simp) (by show p ≤ a; omega)
          have q3 : ∀ u, invE false u = 1 := fun _ => rfl
          as_aux_lemma =>
            go_wp2_with fail
            refine (rRight p _ hp0 hp).mono ?_; rw [ER.out]; rintro _ _ ⟨rfl, rfl⟩
            go_wp2_with fail
            go_ret
            exact ⟨rfl, hw2⟩

set_option maxRecDepth 100000 in
set_option maxHeartbeats 4000000 in
theorem walk_long (p a b n : Int) (v u : Value) (xs ys : List Int) (w : World) (hv : Ints .u64 w v xs) (hu : Ints .u64 w u ys) (h : 60 < xs.length ∨ 60 < ys.length) : Calls Try.prog 3 #[.int .u64 p, .int .u64 a, .int .u64 b, .int .u64 n, v, u] w (Ret (.bool true) w) := by
  obtain ⟨q, cap, rfl, k1, k2, k3⟩ := hv
  obtain ⟨q', cap', rfl, k1', k2', k3'⟩ := hu
  clear k1 k2 k3 k1' k2' k3'
  obtain ⟨lx, elx⟩ : ∃ lx, xs.length = lx := ⟨_, rfl⟩
  obtain ⟨ly, ely⟩ : ∃ ly, ys.length = ly := ⟨_, rfl⟩
  rw [elx, ely] at h
  rw [elx, ely]
  clear elx ely
  by_cases h' : 60 < lx
  · clear h
    go_enter Try.func3, Try.ntmps3
    go_wp2_with fail
    refine (awake01 _).mono ?_; rintro _ w1 ⟨rfl, h1⟩
    go_wp2_with fail
    go_ret
    exact ⟨rfl, (by repeat (first | exact Ext.refl _ | assumption | refine Ext.drew ?_ | refine Ext.drewN ?_ _ | refine Ext.alloc ?_ _ | refine Ext.trans ?_ (by assumption)))⟩
  · have h2 : 60 < ly := by omega
    clear h
    go_enter Try.func3, Try.ntmps3
    go_wp2_with fail
    refine (awake01 _).mono ?_; rintro _ w1 ⟨rfl, h1⟩
    go_wp2_with fail
    go_ret
    exact ⟨rfl, (by repeat (first | exact Ext.refl _ | assumption | refine Ext.drew ?_ | refine Ext.drewN ?_ _ | refine Ext.alloc ?_ _ | refine Ext.trans ?_ (by assumption)))⟩
theorem walk (p a b n : Int) (v : Value) (xs : List Int) (u : Value) (ys : List Int) (w : World) (hp : (Lit.int .u64 p).wf = true) (ha : (Lit.int .u64 a).wf = true) (hb : (Lit.int .u64 b).wf = true) (hn : (Lit.int .u64 n).wf = true)
    (hv : Ints .u64 w v xs) (hx : ∀ x ∈ xs, (Lit.int .u64 x).wf = true) (hu : Ints .u64 w u ys) (hy : ∀ x ∈ ys, (Lit.int .u64 x).wf = true) : Calls Try.prog 3 #[.int .u64 p, .int .u64 a, .int .u64 b, .int .u64 n, v, u] w (Ret (.bool true) w) := by
  have hp := u64_wf hp; have ha := u64_wf ha; have hb := u64_wf hb; have hn := u64_wf hn
  by_cases h : 60 < xs.length ∨ 60 < ys.length
  · exact walk_long p a b n v u xs ys w hv hu h
  · exact walk_main p a b n v u xs ys w hp.1 hp.2 ha.1 ha.2 hb.1 hb.2 hn.1 hn.2 hv hu (fun x h => u64_wf (hx x h)) (fun x h => u64_wf (hy x h)) (by omega) (by omega)

theorem own : ownKnob Try.prog.godebug = none := by kernel_rfl
set_option maxRecDepth 100000 in
theorem lifted (os : Os) (started : os.Started) (H : Type) (enc : TypeId × Value → H) :
    ReturnsInHanded {} Try.checked os 3 .any (Rows.fieldRightSpec.pre6 enc Try.prog Try.f3 Rows.fieldRightRow.domain false) (Rows.fieldRightSpec.post enc Try.prog Try.f3 false true false false) := by
  refine returnsInHanded_of_change (C := Try.checked) own started (by kernel_rfl) Try.func3
    (ChangeSpec.witness6 (enc := enc) (C := Try.checked) false ⟨#[], #[.int .u64 0, .int .u64 0, .int .u64 0, .int .u64 0, .slice none 0 0, .slice none 0 0], []⟩ 8 (by kernel_rfl) (by kernel_rfl) (by kernel_rfl) (by kernel_rfl)) ?_
  intro W base args ds gs before hval0 hW _ _
  have hval : ∀ (j : Nat) t v, Try.f3.params[j]? = some t → args[j]? = some v → Value.okWide Try.prog W .any base t v := hval0
  have hW' := hW
  obtain ⟨p, q, hA0, hV, rfl, _, _⟩ := hW
  have hA : DataW.TrodAll enc Try.prog W 0 (fun _ => true) true Try.f3.params.toList args.toList ds p := hA0
  rw [Try.params3] at hA hval
  obtain ⟨v0, vs0, d0, ds0, p0, q0, hargs, rfl, rfl, h0, r0⟩ := trodAll_cons hA
  obtain ⟨v1, vs1, d1, ds1, p1, q1, rfl, rfl, rfl, h1, r1⟩ := trodAll_cons r0
  obtain ⟨v2, vs2, d2, ds2, p2, q2, rfl, rfl, rfl, h2, r2⟩ := trodAll_cons r1
  obtain ⟨v3, vs3, d3, ds3, p3, q3, rfl, rfl, rfl, h3, r3⟩ := trodAll_cons r2
  obtain ⟨v4, vs4, d4, ds4, p4, q4, rfl, rfl, rfl, h4, r4⟩ := trodAll_cons r3
  obtain ⟨v5, vs5, d5, ds5, p5, q5, rfl, rfl, rfl, h5, r5⟩ := trodAll_cons r4
  obtain ⟨rfl, rfl, rfl⟩ := trodAll_nil r5
  obtain rfl : args = #[v0, v1, v2, v3, v4, v5] := by cases args; simp_all
  obtain ⟨rfl, rfl⟩ := trodVars_none hV
  obtain ⟨a0, rfl, rfl, rfl, w0⟩ := open_int Try.underlying22 (hval 0 22 v0 rfl rfl) h0
  obtain ⟨a1, rfl, rfl, rfl, w1⟩ := open_int Try.underlying22 (hval 1 22 v1 rfl rfl) h1
  obtain ⟨a2, rfl, rfl, rfl, w2⟩ := open_int Try.underlying22 (hval 2 22 v2 rfl rfl) h2
  obtain ⟨a3, rfl, rfl, rfl, w3⟩ := open_int Try.underlying22 (hval 3 22 v3 rfl rfl) h3
  obtain ⟨xs4, i4, w4⟩ := open_Ints Try.underlying23 Try.underlying22 (by kernel_rfl) (hval 4 23 v4 rfl rfl) h4
  obtain ⟨xs5, i5, w5⟩ := open_Ints Try.underlying23 Try.underlying22 (by kernel_rfl) (hval 5 23 v5 rfl rfl) h5
  refine (walk a0 a1 a2 a3 v4 xs4 v5 xs5 W w0 w1 w2 w3 i4 w4 i5 w5).mono fun e W' ⟨he, hg⟩ => ⟨_, he, ?_⟩
  exact law_post (by kernel_rfl) (by kernel_rfl) rfl Try.underlying4 rfl rfl hW' hg

/-- the statement -/
theorem proved : Rows.FieldRightSaid :=
  OpenClaim.holds_of_wide 3 Try.f3 rfl rfl rfl rfl rfl rfl rfl ⟨rfl, rfl, rfl, rfl, rfl⟩ rfl rfl rfl rfl rfl (by kernel_rfl) Try.func3 (by kernel_rfl)
    (of_decide_eq_true (by kernel_rfl)) (by unfold Func.isWrapper; first | (rw [if_pos (by decide +kernel)]; kernel_rfl) | (rw [if_neg (by decide +kernel)]; exact ⟨rfl, rfl⟩))
    (fun os started H enc _ => lifted os started H enc)
end Go.Proofs.Ytobibegjalfjoaa.fieldRight
