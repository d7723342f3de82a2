/- What the texts Wt1, Awake14, Ref07, CupQ, CupR, UsL, Cm1 show, in one text. -/
import Derived.Test.YtdfkojbfgodegaaBun06
import Derived.Test.YtdfkojbfgodegaaBun07
import Derived.Test.YtdfkojbfgodegaaBun11
import Derived.Test.YtdfkojbfgodegaaBun12
import Derived.Test.YtdfkojbfgodegaaBun04
import Derived.Test.YtdfkojbfgodegaaBun15
import Derived.Deep.RegionHeld3
import Derived.Test.YtdfkojbfgodegaaBun14
import Derived.Test.YtdfkojbfgodegaaBun08
import Derived.Maps.AppendAt
/- Package witness: its seven functions, of any numbers. -/
namespace Go.Proofs.Ytdfkojbfgodegaa
open Go.RowKit Go.Maps

theorem wtNot0 (y : Int) (w : World) : Calls Try.prog 45 #[.int .u64 y] w fun e w' => e = .returned (.bool (y != 0)) ∧ w = w' := by
  go_enter Try.func45, Try.ntmps45
  go_wp2_with fail
  go_ret
  exact ⟨rfl, rfl⟩
theorem zeroB_no {l : List Int} {j : Nat} (hj : j < l.length) (h : l.getD j 0 ≠ 0) : zeroB l = false := by
  cases e : zeroB l with
  | false => rfl
  | true => exact absurd (zeroB_iff.1 e j hj) h
set_option maxRecDepth 100000 in
set_option maxHeartbeats 1000000 in
theorem wtIndex (v : Value) (xs : List Int) (w : World) (hv : Ints .u64 w v xs) :
    Calls Try.prog 66 #[v, .func (.func 45) #[] #[]] w fun e w' => ∃ i : Int, e = .returned (.int .i64 i) ∧ decide (0 ≤ i) = !zeroB xs ∧ Ext w w' := by
  have C1 := hid fun y W => wtNot0 y W
  obtain ⟨Z, hZ⟩ : ∃ Z, zeroB xs = Z := ⟨_, rfl⟩
  rw [hZ]
  have HZ := hid hZ
  obtain ⟨a, cap, rfl, k1, k2, k3⟩ := hv
  have K3 := hid k3
  obtain ⟨n, en⟩ : ∃ n, xs.length = n := ⟨_, rfl⟩
  have En := hid en
  rw [en] at k1 K3 ⊢
  clear k3 hZ en
  go_enter Try.func66, Try.ntmps66
  go_wp2_with fail
  go_loopw [8] (fun iv wr => ∃ (j : Nat), iv = .int .i64 j ∧ j ≤ n ∧ Hid (∀ t, t < j → xs.getD t 0 = 0) ∧ Ext w wr) (fun iv _ => n - (intOf iv).toNat)
  case atStart => exact ⟨0, rfl, Nat.zero_le _, hid (fun t ht => absurd ht (Nat.not_lt_zero _)), Ext.refl _⟩
  case round =>
    obtain ⟨j, rfl, hj, hz, hw⟩ := hrel
    by_cases hlt : j < n
    · obtain ⟨b, off, rfl, hb, hc⟩ := K3.out (by omega)
      have g1 := (hw.cells _ _ hb).trans (hc j hlt)
      obtain ⟨y, ey⟩ : ∃ y, xs.getD j 0 = y := ⟨_, rfl⟩
      rw [ey] at g1
      have Ey := hid ey
      clear ey hc
      by_cases c : y = 0
      · have e0 : ((0 : Int) != 0) = false := by decide
        have C2 := hid (C1.out 0)
        rw [e0] at C2
        subst c
        go_wp2_with (go_at_call 45; refine (C2.out _).mono ?_; rintro _ _ ⟨rfl, rfl⟩)
        go_roundw
        case rel =>
          refine ⟨j + 1, by go_num, by omega, hid (fun t ht => ?_), hw⟩
          by_cases e : t = j
          · rw [e, Ey.out]
          · exact hz.out t (by omega)
        case measure => simp [intOf]; omega
      · have e0 : (y != 0) = true := by simp [c]
        have C2 := hid (C1.out y)
        rw [e0] at C2
        have hN := hid (show Z = false by
          rw [← HZ.out]
          exact zeroB_no (by rw [En.out]; exact hlt) (by rw [Ey.out]; exact c))
        go_wp2_with (go_at_call 45; refine (C2.out _).mono ?_; rintro _ _ ⟨rfl, rfl⟩)
        go_ret
        exact ⟨_, rfl, by rw [hN.out]; simp, hw⟩
    · obtain rfl : n = j := by omega
      have hN := hid (show Z = true by
        rw [← HZ.out]
        exact zeroB_iff.2 fun t ht => hz.out t (by rw [← En.out]; exact ht))
      go_wp2_with fail
      go_ret
      exact ⟨_, rfl, by rw [hN.out]; rfl, hw⟩
set_option maxHeartbeats 1000000 in
theorem wtContains (v : Value) (xs : List Int) (w : World) (hv : Ints .u64 w v xs) :
    Calls Try.prog 44 #[v, .func (.func 45) #[] #[]] w (Ret (.bool (!zeroB xs)) w) := by
  have C := hid (wtIndex v xs w hv)
  obtain ⟨Z, hZ⟩ : ∃ Z, (!zeroB xs) = Z := ⟨_, rfl⟩
  rw [hZ] at C ⊢
  clear hZ
  obtain ⟨a, cap, rfl, -, -, -⟩ := hv
  go_enter Try.func44, Try.ntmps44
  go_wp2_with (go_at_call 66; refine C.out.mono ?_; rintro _ w1 ⟨i, rfl, hi, x1⟩)
  go_ret
  exact ⟨rfl, x1⟩
set_option maxHeartbeats 1000000 in
theorem wtZero (v : Value) (xs : List Int) (w : World) (hv : Ints .u64 w v xs) :
    Calls Try.prog 25 #[v] w (Ret (.bool (zeroB xs)) w) := by
  have C := hid (wtContains v xs w hv)
  obtain ⟨Z, hZ⟩ : ∃ Z, zeroB xs = Z := ⟨_, rfl⟩
  rw [hZ] at C ⊢
  clear hZ
  obtain ⟨a, cap, rfl, -, -, -⟩ := hv
  go_enter Try.func25, Try.ntmps25
  go_wp2_with (go_at_call 44; refine C.out.mono ?_; rintro _ w1 ⟨rfl, x1⟩)
  go_ret
  exact ⟨ret_bool (by simp), x1⟩

/-- what a matrix makes, and its error -/
theorem wtTimes (p r c : Int) (v u : Value) (xs ys : List Int) (w : World) (h0 : 0 ≤ p) (h1 : p ≤ 18446744073709551615) (hv : Ints .u64 w v xs) (hx : U64s xs) (hu : Ints .u64 w u ys) (hy : U64s ys) :
    Calls Try.prog 37 #[.int .u64 p, matV r c v, u] w (RetE (if matB p r c xs && vecB p c ys then 0 else 1) (if matB p r c xs && vecB p c ys then timesL p r.toNat c.toNat xs ys else []) w) := by
  cases h : matB p r c xs && vecB p c ys with
  | false => exact (mxTimes_no p r c v u xs ys w h0 h1 hv hx hu hy h).mono fun e w' ⟨h1, h2⟩ => ⟨_, h1, Ints.nil, h2⟩
  | true =>
    rw [Bool.and_eq_true] at h
    obtain ⟨m, n, rfl, rfl, ok⟩ := MatOk.of hx h.1
    obtain ⟨_, g2, g3⟩ := vecB_true hy h.2
    exact mxTimes_yes p m n v u xs ys w ok hv hu g2 (by omega)
theorem wtLeft (p r c : Int) (v u : Value) (xs ys : List Int) (w : World) (h0 : 0 ≤ p) (h1 : p ≤ 18446744073709551615) (hv : Ints .u64 w v xs) (hx : U64s xs) (hu : Ints .u64 w u ys) (hy : U64s ys) :
    Calls Try.prog 39 #[.int .u64 p, u, matV r c v] w (RetE (if matB p r c xs && vecB p r ys then 0 else 1) (if matB p r c xs && vecB p r ys then leftL p r.toNat c.toNat xs ys else []) w) := by
  cases h : matB p r c xs && vecB p r ys with
  | false => exact (mxLeft_no p r c v u xs ys w h0 h1 hv hx hu hy h).mono fun e w' ⟨h1, h2⟩ => ⟨_, h1, Ints.nil, h2⟩
  | true =>
    rw [Bool.and_eq_true] at h
    obtain ⟨m, n, rfl, rfl, ok⟩ := MatOk.of hx h.1
    obtain ⟨_, g2, g3⟩ := vecB_true hy h.2
    exact mxLeft_yes p m n v u xs ys w ok hv hu g2 (by omega)
/-- does x solve b, does y lose, is y against b, does x show that it is singular: of any matrix -/
def solA (p r c : Int) (xs b x : List Int) : Bool := matB p r c xs && solB p r.toNat c.toNat xs b x
def losA (p r c : Int) (xs y : List Int) : Bool := matB p r c xs && losB p r.toNat c.toNat xs y
def agA (p r c : Int) (xs b y : List Int) : Bool := matB p r c xs && agB p r.toNat c.toNat xs b y
def sinA (p r c : Int) (xs x : List Int) : Bool := matB p r c xs && (decide (r = c) && sinB p c.toNat xs x)
theorem toNat_of {p r c : Int} {xs : List Int} (hx : U64s xs) (h : matB p r c xs = true) : ((r.toNat : Nat) : Int) = r ∧ ((c.toNat : Nat) : Int) = c := by
  obtain ⟨m, n, rfl, rfl, ok⟩ := MatOk.of hx h
  exact ⟨by omega, by omega⟩
theorem solA_no {p r c : Int} {xs b x : List Int} (hx : U64s xs) (h : (matB p r c xs && vecB p c x) = false) : solA p r c xs b x = false := by
  unfold solA solB
  cases h' : matB p r c xs with
  | false => rfl
  | true =>
    rw [h', Bool.true_and] at h
    rw [(toNat_of hx h').2, h, Bool.false_and, Bool.and_false]; rfl
theorem solA_yes {p r c : Int} {xs b x : List Int} (hx : U64s xs) (h : (matB p r c xs && vecB p c x) = true) : solA p r c xs b x = decide (timesL p r.toNat c.toNat xs x = b) := by
  rw [Bool.and_eq_true] at h
  obtain ⟨h1, h2⟩ := h
  obtain ⟨m, n, rfl, rfl, ok⟩ := MatOk.of hx h1
  unfold solA solB
  rw [h1, (toNat_of hx h1).2, h2, Bool.true_and, Bool.true_and]
  cases e : decide (timesL p (m : Int).toNat (n : Int).toNat xs x = b) with
  | false => rw [Bool.and_false]
  | true =>
    rw [decide_eq_true_eq] at e
    rw [Bool.and_true, ← e]
    exact vecB_of ok.hp (timesL_len _ _ _ _) (timesL_rng (rightB_true ok.hp).1 _ _ _ _)
theorem losA_no {p r c : Int} {xs y : List Int} (hx : U64s xs) (h : (matB p r c xs && vecB p r y) = false) : losA p r c xs y = false := by
  unfold losA losB
  cases h' : matB p r c xs with
  | false => rfl
  | true =>
    rw [h', Bool.true_and] at h
    rw [(toNat_of hx h').1, h, Bool.false_and]; rfl
theorem losA_yes {p r c : Int} {xs y : List Int} (hx : U64s xs) (h : (matB p r c xs && vecB p r y) = true) : losA p r c xs y = (!zeroB y && zeroB (leftL p r.toNat c.toNat xs y)) := by
  rw [Bool.and_eq_true] at h
  unfold losA losB
  rw [h.1, (toNat_of hx h.1).1, h.2, Bool.true_and, Bool.true_and]
theorem sinA_no {p r c : Int} {xs x : List Int} (hx : U64s xs) (h : (matB p r c xs && vecB p c x) = false) : sinA p r c xs x = false := by
  unfold sinA sinB
  cases h' : matB p r c xs with
  | false => rfl
  | true =>
    rw [h', Bool.true_and] at h
    rw [(toNat_of hx h').2, h, Bool.false_and, Bool.and_false]; rfl
theorem sinA_yes {p r c : Int} {xs x : List Int} (hx : U64s xs) (h : (matB p r c xs && vecB p c x) = true) : sinA p r c xs x = (decide (r = c) && (!zeroB x && zeroB (timesL p r.toNat c.toNat xs x))) := by
  rw [Bool.and_eq_true] at h
  unfold sinA sinB
  rw [h.1, (toNat_of hx h.1).2, h.2, Bool.true_and]
  by_cases e : r = c
  · subst e; rw [Bool.true_and]
  · rw [decide_eq_false e, Bool.false_and, Bool.false_and]

set_option maxHeartbeats 1000000 in
theorem wtSolves (p r c : Int) (v vb u : Value) (xs b x : List Int) (w : World) (h0 : 0 ≤ p) (h1 : p ≤ 18446744073709551615) (hv : Ints .u64 w v xs) (hx : U64s xs) (hb : Ints .u64 w vb b) (hu : Ints .u64 w u x) (hy : U64s x) :
    Calls Try.prog 14 #[.int .u64 p, matV r c v, vb, u] w (Ret (.bool (solA p r c xs b x)) w) := by
  have C1 := hid fun (W : World) (hW : Ext w W) => wtTimes p r c v u xs x W h0 h1 (hv.ext hW) hx (hu.ext hW) hy
  obtain ⟨G, eG⟩ : ∃ G, (matB p r c xs && vecB p c x) = G := ⟨_, rfl⟩
  rw [eG] at C1
  cases G with
  | false =>
    rw [solA_no hx eG]
    unfold matV RetE at C1
    unfold matV
    obtain ⟨a, cap, rfl, -, -, -⟩ := hv
    obtain ⟨a2, cap2, rfl, -, -, -⟩ := hb
    obtain ⟨a3, cap3, rfl, -, -, -⟩ := hu
    clear hx hy eG
    go_enter Try.func14, Try.ntmps14
    go_wp2_with (go_at_call 37; refine (C1.out _ (by repeat (first | exact Ext.refl _ | assumption | refine Ext.drew ?_ | refine Ext.drewN ?_ _ | refine Ext.alloc ?_ _ | refine Ext.trans ?_ (by assumption)))).mono ?_; rintro _ w1 ⟨z, rfl, hI, x1⟩; obtain ⟨a4, cap4, rfl, -, -, -⟩ := hI)
    go_ret
    exact ⟨rfl, Ext.trans (by repeat (first | exact Ext.refl _ | assumption | refine Ext.drew ?_ | refine Ext.drewN ?_ _ | refine Ext.alloc ?_ _ | refine Ext.trans ?_ (by assumption))) x1⟩
  | true =>
    rw [solA_yes hx eG]
    have CE := hid fun (W : World) (z z' : Value) (hz : Ints .u64 W z (timesL p r.toNat c.toNat xs x)) (hz' : Ints .u64 W z' b) => equal_any z z' (timesL p r.toNat c.toNat xs x) b W hz hz'
    obtain ⟨L, eL⟩ : ∃ L, timesL p r.toNat c.toNat xs x = L := ⟨_, rfl⟩
    rw [if_pos rfl, if_pos rfl] at C1
    rw [eL] at C1 CE ⊢
    obtain ⟨D, eD⟩ : ∃ D, decide (L = b) = D := ⟨_, rfl⟩
    rw [eD] at CE ⊢
    have HB := hid hb
    unfold matV RetE at C1
    unfold matV
    obtain ⟨a, cap, rfl, -, -, -⟩ := hv
    obtain ⟨a2, cap2, rfl, -, -, -⟩ := hb
    obtain ⟨a3, cap3, rfl, -, -, -⟩ := hu
    clear hx hy eG eL eD
    go_enter Try.func14, Try.ntmps14
    go_wp2_with (first
      | (go_at_call 37; refine (C1.out _ (by repeat (first | exact Ext.refl _ | assumption | refine Ext.drew ?_ | refine Ext.drewN ?_ _ | refine Ext.alloc ?_ _ | refine Ext.trans ?_ (by assumption)))).mono ?_; rintro _ w1 ⟨z, rfl, hI, x1⟩; have HI := hid hI; obtain ⟨a4, cap4, rfl, -, -, -⟩ := hI; have y1 : Ext w w1 := Ext.trans (by repeat (first | exact Ext.refl _ | assumption | refine Ext.drew ?_ | refine Ext.drewN ?_ _ | refine Ext.alloc ?_ _ | refine Ext.trans ?_ (by assumption))) x1)
      | (go_at_call 38; refine (CE.out _ _ _ HI.out (HB.out.ext y1)).mono ?_; rintro _ w2 ⟨rfl, x2⟩))
    go_ret
    exact ⟨rfl, y1.trans x2⟩
set_option maxHeartbeats 1000000 in
theorem wtMeets (p r c : Int) (v vb u : Value) (xs b x : List Int) (w : World) (h0 : 0 ≤ p) (h1 : p ≤ 18446744073709551615) (hv : Ints .u64 w v xs) (hx : U64s xs) (hb : Ints .u64 w vb b) (hu : Ints .u64 w u x) (hy : U64s x) :
    Calls Try.prog 22 #[.int .u64 p, matV r c v, vb, u] w (Ret (.bool (decide (r = c) && solA p r c xs b x)) w) := by
  have C1 := hid fun (W : World) (hW : Ext w W) => wtSolves p r c v vb u xs b x W h0 h1 (hv.ext hW) hx (hb.ext hW) (hu.ext hW) hy
  obtain ⟨D, eD⟩ : ∃ D, solA p r c xs b x = D := ⟨_, rfl⟩
  rw [eD] at C1 ⊢
  unfold matV at C1
  unfold matV
  obtain ⟨a, cap, rfl, -, -, -⟩ := hv
  obtain ⟨a2, cap2, rfl, -, -, -⟩ := hb
  obtain ⟨a3, cap3, rfl, -, -, -⟩ := hu
  clear hx hy eD
  by_cases e : r = c
  · subst e
    go_enter Try.func22, Try.ntmps22
    go_wp2_with (go_at_call 14; refine (C1.out _ (by repeat (first | exact Ext.refl _ | assumption | refine Ext.drew ?_ | refine Ext.drewN ?_ _ | refine Ext.alloc ?_ _ | refine Ext.trans ?_ (by assumption)))).mono ?_; rintro _ w1 ⟨rfl, x1⟩)
    go_ret
    exact ⟨ret_bool (by simp), Ext.trans (by repeat (first | exact Ext.refl _ | assumption | refine Ext.drew ?_ | refine Ext.drewN ?_ _ | refine Ext.alloc ?_ _ | refine Ext.trans ?_ (by assumption))) x1⟩
  · have e2 : (r == c) = false := by simp [e]
    rw [decide_eq_false e]
    go_enter Try.func22, Try.ntmps22
    go_wp2_with (go_at_call 14; refine (C1.out _ (by repeat (first | exact Ext.refl _ | assumption | refine Ext.drew ?_ | refine Ext.drewN ?_ _ | refine Ext.alloc ?_ _ | refine Ext.trans ?_ (by assumption)))).mono ?_; rintro _ w1 ⟨rfl, x1⟩)
    go_ret
    exact ⟨rfl, (by repeat (first | exact Ext.refl _ | assumption | refine Ext.drew ?_ | refine Ext.drewN ?_ _ | refine Ext.alloc ?_ _ | refine Ext.trans ?_ (by assumption)))⟩
set_option maxHeartbeats 1000000 in
theorem wtLoses (p r c : Int) (v u : Value) (xs y : List Int) (w : World) (h0 : 0 ≤ p) (h1 : p ≤ 18446744073709551615) (hv : Ints .u64 w v xs) (hx : U64s xs) (hu : Ints .u64 w u y) (hy : U64s y) :
    Calls Try.prog 16 #[.int .u64 p, matV r c v, u] w (Ret (.bool (losA p r c xs y)) w) := by
  have C1 := hid fun (W : World) (hW : Ext w W) => wtLeft p r c v u xs y W h0 h1 (hv.ext hW) hx (hu.ext hW) hy
  obtain ⟨G, eG⟩ : ∃ G, (matB p r c xs && vecB p r y) = G := ⟨_, rfl⟩
  rw [eG] at C1
  have CZ := hid fun (W : World) (hW : Ext w W) => wtZero u y W (hu.ext hW)
  cases G with
  | false =>
    rw [losA_no hx eG]
    unfold matV RetE at C1
    unfold matV
    obtain ⟨a, cap, rfl, -, -, -⟩ := hv
    obtain ⟨a3, cap3, rfl, -, -, -⟩ := hu
    clear hx hy eG
    go_enter Try.func16, Try.ntmps16
    go_wp2_with (go_at_call 39; refine (C1.out _ (by repeat (first | exact Ext.refl _ | assumption | refine Ext.drew ?_ | refine Ext.drewN ?_ _ | refine Ext.alloc ?_ _ | refine Ext.trans ?_ (by assumption)))).mono ?_; rintro _ w1 ⟨z, rfl, hI, x1⟩; obtain ⟨a4, cap4, rfl, -, -, -⟩ := hI)
    go_ret
    exact ⟨rfl, Ext.trans (by repeat (first | exact Ext.refl _ | assumption | refine Ext.drew ?_ | refine Ext.drewN ?_ _ | refine Ext.alloc ?_ _ | refine Ext.trans ?_ (by assumption))) x1⟩
  | true =>
    rw [losA_yes hx eG]
    have CM := hid fun (W : World) (z : Value) (hz : Ints .u64 W z (leftL p r.toNat c.toNat xs y)) => wtZero z (leftL p r.toNat c.toNat xs y) W hz
    obtain ⟨L, eL⟩ : ∃ L, leftL p r.toNat c.toNat xs y = L := ⟨_, rfl⟩
    rw [if_pos rfl, if_pos rfl] at C1
    rw [eL] at C1 CM ⊢
    obtain ⟨D, eD⟩ : ∃ D, zeroB L = D := ⟨_, rfl⟩
    obtain ⟨B, eB⟩ : ∃ B, zeroB y = B := ⟨_, rfl⟩
    rw [eD] at CM ⊢
    rw [eB] at CZ ⊢
    unfold matV RetE at C1
    unfold matV
    obtain ⟨a, cap, rfl, -, -, -⟩ := hv
    obtain ⟨a3, cap3, rfl, -, -, -⟩ := hu
    clear hx hy eG eL eD eB
    cases B with
    | true =>
      go_enter Try.func16, Try.ntmps16
      go_wp2_with (first
        | (go_at_call 39; refine (C1.out _ (by repeat (first | exact Ext.refl _ | assumption | refine Ext.drew ?_ | refine Ext.drewN ?_ _ | refine Ext.alloc ?_ _ | refine Ext.trans ?_ (by assumption)))).mono ?_; rintro _ w1 ⟨z, rfl, hI, x1⟩; have HI := hid hI; obtain ⟨a4, cap4, rfl, -, -, -⟩ := hI; have y1 : Ext w w1 := Ext.trans (by repeat (first | exact Ext.refl _ | assumption | refine Ext.drew ?_ | refine Ext.drewN ?_ _ | refine Ext.alloc ?_ _ | refine Ext.trans ?_ (by assumption))) x1)
        | (go_at_call 25; refine (CZ.out _ y1).mono ?_; rintro _ w2 ⟨rfl, x2⟩))
      go_ret
      exact ⟨rfl, y1.trans x2⟩
    | false =>
      go_enter Try.func16, Try.ntmps16
      go_wp2_with (first
        | (go_at_call 39; refine (C1.out _ (by repeat (first | exact Ext.refl _ | assumption | refine Ext.drew ?_ | refine Ext.drewN ?_ _ | refine Ext.alloc ?_ _ | refine Ext.trans ?_ (by assumption)))).mono ?_; rintro _ w1 ⟨z, rfl, hI, x1⟩; have HI := hid hI; obtain ⟨a4, cap4, rfl, -, -, -⟩ := hI; have y1 : Ext w w1 := Ext.trans (by repeat (first | exact Ext.refl _ | assumption | refine Ext.drew ?_ | refine Ext.drewN ?_ _ | refine Ext.alloc ?_ _ | refine Ext.trans ?_ (by assumption))) x1)
        | (have t_ := y2; clear t_; go_at_call 25; refine (CM.out _ _ (HI.out.ext x2)).mono ?_; rintro _ w3 ⟨rfl, x3⟩)
        | (go_at_call 25; refine (CZ.out _ y1).mono ?_; rintro _ w2 ⟨rfl, x2⟩; have y2 := y1.trans x2))
      go_ret
      exact ⟨ret_bool (by simp), y2.trans x3⟩
set_option maxHeartbeats 1000000 in
theorem wtSingular (p r c : Int) (v u : Value) (xs x : List Int) (w : World) (h0 : 0 ≤ p) (h1 : p ≤ 18446744073709551615) (hv : Ints .u64 w v xs) (hx : U64s xs) (hu : Ints .u64 w u x) (hy : U64s x) :
    Calls Try.prog 18 #[.int .u64 p, matV r c v, u] w (Ret (.bool (sinA p r c xs x)) w) := by
  have C1 := hid fun (W : World) (hW : Ext w W) => wtTimes p r c v u xs x W h0 h1 (hv.ext hW) hx (hu.ext hW) hy
  obtain ⟨G, eG⟩ : ∃ G, (matB p r c xs && vecB p c x) = G := ⟨_, rfl⟩
  rw [eG] at C1
  have CZ := hid fun (W : World) (hW : Ext w W) => wtZero u x W (hu.ext hW)
  cases G with
  | false =>
    rw [sinA_no hx eG]
    unfold matV RetE at C1
    unfold matV
    obtain ⟨a, cap, rfl, -, -, -⟩ := hv
    obtain ⟨a3, cap3, rfl, -, -, -⟩ := hu
    clear hx hy eG
    go_enter Try.func18, Try.ntmps18
    go_wp2_with (go_at_call 37; refine (C1.out _ (by repeat (first | exact Ext.refl _ | assumption | refine Ext.drew ?_ | refine Ext.drewN ?_ _ | refine Ext.alloc ?_ _ | refine Ext.trans ?_ (by assumption)))).mono ?_; rintro _ w1 ⟨z, rfl, hI, x1⟩; obtain ⟨a4, cap4, rfl, -, -, -⟩ := hI)
    go_ret
    exact ⟨rfl, Ext.trans (by repeat (first | exact Ext.refl _ | assumption | refine Ext.drew ?_ | refine Ext.drewN ?_ _ | refine Ext.alloc ?_ _ | refine Ext.trans ?_ (by assumption))) x1⟩
  | true =>
    rw [sinA_yes hx eG]
    have CM := hid fun (W : World) (z : Value) (hz : Ints .u64 W z (timesL p r.toNat c.toNat xs x)) => wtZero z (timesL p r.toNat c.toNat xs x) W hz
    obtain ⟨L, eL⟩ : ∃ L, timesL p r.toNat c.toNat xs x = L := ⟨_, rfl⟩
    rw [if_pos rfl, if_pos rfl] at C1
    rw [eL] at C1 CM ⊢
    obtain ⟨D, eD⟩ : ∃ D, zeroB L = D := ⟨_, rfl⟩
    obtain ⟨B, eB⟩ : ∃ B, zeroB x = B := ⟨_, rfl⟩
    rw [eD] at CM ⊢
    rw [eB] at CZ ⊢
    unfold matV RetE at C1
    unfold matV
    obtain ⟨a, cap, rfl, -, -, -⟩ := hv
    obtain ⟨a3, cap3, rfl, -, -, -⟩ := hu
    clear hx hy eG eL eD eB
    have HX := hid (box3 w 25 (.int .i64 r) (.int .i64 c) (.slice a xs.length cap))
    by_cases e : r = c
    · subst e
      rw [decide_eq_true rfl, Bool.true_and]
      cases B with
      | true =>
        go_enter Try.func18, Try.ntmps18
        go_wp2_with (first
          | (go_at_call 37; refine (C1.out _ (by repeat (first | exact Ext.refl _ | assumption | refine Ext.drew ?_ | refine Ext.drewN ?_ _ | refine Ext.alloc ?_ _ | refine Ext.trans ?_ (by assumption)))).mono ?_; rintro _ w1 ⟨z, rfl, hI, x1⟩; have HI := hid hI; obtain ⟨a4, cap4, rfl, -, -, -⟩ := hI; have y1 : Ext w w1 := Ext.trans (by repeat (first | exact Ext.refl _ | assumption | refine Ext.drew ?_ | refine Ext.drewN ?_ _ | refine Ext.alloc ?_ _ | refine Ext.trans ?_ (by assumption))) x1; obtain ⟨p0, p1, p2⟩ := HX.out _ x1)
          | (go_at_call 25; refine (CZ.out _ y1).mono ?_; rintro _ w2 ⟨rfl, x2⟩))
        go_ret
        exact ⟨rfl, y1.trans x2⟩
      | false =>
        go_enter Try.func18, Try.ntmps18
        go_wp2_with (first
          | (go_at_call 37; refine (C1.out _ (by repeat (first | exact Ext.refl _ | assumption | refine Ext.drew ?_ | refine Ext.drewN ?_ _ | refine Ext.alloc ?_ _ | refine Ext.trans ?_ (by assumption)))).mono ?_; rintro _ w1 ⟨z, rfl, hI, x1⟩; have HI := hid hI; obtain ⟨a4, cap4, rfl, -, -, -⟩ := hI; have y1 : Ext w w1 := Ext.trans (by repeat (first | exact Ext.refl _ | assumption | refine Ext.drew ?_ | refine Ext.drewN ?_ _ | refine Ext.alloc ?_ _ | refine Ext.trans ?_ (by assumption))) x1; obtain ⟨p0, p1, p2⟩ := HX.out _ x1)
          | (have t_ := y2; clear t_; go_at_call 25; refine (CM.out _ _ (HI.out.ext x2)).mono ?_; rintro _ w3 ⟨rfl, x3⟩)
          | (go_at_call 25; refine (CZ.out _ y1).mono ?_; rintro _ w2 ⟨rfl, x2⟩; have y2 := y1.trans x2))
        go_ret
        exact ⟨ret_bool (by simp), y2.trans x3⟩
    · have e2 : (r == c) = false := by simp [e]
      rw [decide_eq_false e]
      go_enter Try.func18, Try.ntmps18
      go_wp2_with (go_at_call 37; refine (C1.out _ (by repeat (first | exact Ext.refl _ | assumption | refine Ext.drew ?_ | refine Ext.drewN ?_ _ | refine Ext.alloc ?_ _ | refine Ext.trans ?_ (by assumption)))).mono ?_; rintro _ w1 ⟨z, rfl, hI, x1⟩; have HI := hid hI; obtain ⟨a4, cap4, rfl, -, -, -⟩ := hI; have y1 : Ext w w1 := Ext.trans (by repeat (first | exact Ext.refl _ | assumption | refine Ext.drew ?_ | refine Ext.drewN ?_ _ | refine Ext.alloc ?_ _ | refine Ext.trans ?_ (by assumption))) x1; obtain ⟨p0, p1, p2⟩ := HX.out _ x1)
      go_ret
      exact ⟨rfl, y1⟩
/-- may a product of numbers be asked for? -/
def dotA (p : Int) (y b : List Int) : Bool := decide (y.length = b.length) && (hasB p y && hasB p b)
theorem wtDot (p : Int) (v u : Value) (y b : List Int) (w : World) (h0 : 0 ≤ p) (h1 : p ≤ 18446744073709551615) (hv : Ints .u64 w v y) (hu : Ints .u64 w u b) (hy : U64s y) (hb : U64s b) :
    Calls Try.prog 35 #[.int .u64 p, v, u] w (Ret (.tuple #[.int .u64 (if dotA p y b then dotZ y b % p else 0), .int .i64 (if dotA p y b then 0 else 1)]) w) := by
  cases h : dotA p y b with
  | true =>
    unfold dotA at h
    rw [Bool.and_eq_true, Bool.and_eq_true, decide_eq_true_eq] at h
    exact dot_yes p v u y b w hv hu hy hb h.1 h.2.1 h.2.2
  | false =>
    refine dot_no p v u y b w h0 h1 hv hu hy hb ?_
    unfold dotA at h
    by_cases e : y.length = b.length
    · rw [decide_eq_true e, Bool.true_and] at h
      cases h2 : hasB p y with
      | false => exact .inr (.inl rfl)
      | true => rw [h2, Bool.true_and] at h; exact .inr (.inr h)
    · exact .inl e
theorem zero_dot {y b : List Int} (h : zeroB y = true) (hl : y.length = b.length) : dotZ y b = 0 := by
  rw [dotZ_sm y b hl]
  exact sm_zero fun k hk => by rw [zeroB_iff.1 h k hk, Int.zero_mul]
theorem agA_eq {p r c : Int} {xs b y : List Int} (hx : U64s xs) (hy : U64s y) : agA p r c xs b y = (dotA p y b && (decide (dotZ y b % p ≠ 0) && losA p r c xs y)) := by
  unfold agA losA agB losB
  cases h' : matB p r c xs with
  | false => simp
  | true =>
    obtain ⟨m, n, rfl, rfl, ok⟩ := MatOk.of hx h'
    rw [Bool.true_and, Bool.true_and]
    simp only [Int.toNat_natCast]
    cases h1 : vecB p m y with
    | false => simp
    | true =>
      obtain ⟨g1, g2, g3⟩ := vecB_true hy h1
      have hd : dotA p y b = vecB p m b := by
        unfold dotA vecB
        rw [g2.has ok.hp, Bool.true_and]
        by_cases e : y.length = b.length
        · rw [decide_eq_true e, decide_eq_true (by omega)]
        · rw [decide_eq_false e, decide_eq_false (by omega)]
      rw [hd]
      cases h2 : vecB p m b with
      | false => rfl
      | true =>
        rw [Bool.true_and, Bool.true_and, Bool.true_and, Bool.true_and]
        by_cases e : dotZ y b % p = 0
        · rw [decide_eq_false (by simpa using e), Bool.and_false, Bool.false_and]
        · rw [decide_eq_true e, Bool.and_true, Bool.true_and]
          have : zeroB y = false := by
            cases hz : zeroB y with
            | false => rfl
            | true =>
              exfalso
              apply e
              have hl : (b.length : Int) = m := by
                unfold vecB at h2
                rw [Bool.and_eq_true, decide_eq_true_eq] at h2
                exact h2.1
              rw [zero_dot hz (by omega)]; rfl
          rw [this]; rfl
set_option maxHeartbeats 1000000 in
theorem wtAgainst (p r c : Int) (v vb u : Value) (xs b y : List Int) (w : World) (h0 : 0 ≤ p) (h1 : p ≤ 18446744073709551615) (hv : Ints .u64 w v xs) (hx : U64s xs) (hb : Ints .u64 w vb b) (hbu : U64s b) (hu : Ints .u64 w u y) (hy : U64s y) :
    Calls Try.prog 15 #[.int .u64 p, matV r c v, vb, u] w (Ret (.bool (agA p r c xs b y)) w) := by
  rw [agA_eq hx hy]
  have C1 := hid fun (W : World) (hW : Ext w W) => wtDot p u vb y b W h0 h1 (hu.ext hW) (hb.ext hW) hy hbu
  have C2 := hid fun (W : World) (hW : Ext w W) => wtLoses p r c v u xs y W h0 h1 (hv.ext hW) hx (hu.ext hW) hy
  obtain ⟨G, eG⟩ : ∃ G, dotA p y b = G := ⟨_, rfl⟩
  obtain ⟨D, eD⟩ : ∃ D, dotZ y b % p = D := ⟨_, rfl⟩
  obtain ⟨L, eL⟩ : ∃ L, losA p r c xs y = L := ⟨_, rfl⟩
  rw [eG, eD] at C1
  rw [eL] at C2
  rw [eG, eD, eL]
  unfold matV at C2
  unfold matV
  obtain ⟨a, cap, rfl, -, -, -⟩ := hv
  obtain ⟨a2, cap2, rfl, -, -, -⟩ := hb
  obtain ⟨a3, cap3, rfl, -, -, -⟩ := hu
  have HX := hid (box3 w 25 (.int .i64 r) (.int .i64 c) (.slice a xs.length cap))
  clear hx hy hbu eG eD eL
  cases G with
  | false =>
    rw [if_neg (by decide), if_neg (by decide)] at C1
    go_enter Try.func15, Try.ntmps15
    go_wp2_with (go_at_call 35; refine (C1.out _ (by repeat (first | exact Ext.refl _ | assumption | refine Ext.drew ?_ | refine Ext.drewN ?_ _ | refine Ext.alloc ?_ _ | refine Ext.trans ?_ (by assumption)))).mono ?_; rintro _ w1 ⟨rfl, x1⟩)
    go_ret
    exact ⟨rfl, Ext.trans (by repeat (first | exact Ext.refl _ | assumption | refine Ext.drew ?_ | refine Ext.drewN ?_ _ | refine Ext.alloc ?_ _ | refine Ext.trans ?_ (by assumption))) x1⟩
  | true =>
    rw [if_pos rfl, if_pos rfl] at C1
    by_cases e : D = 0
    · subst e
      go_enter Try.func15, Try.ntmps15
      go_wp2_with (go_at_call 35; refine (C1.out _ (by repeat (first | exact Ext.refl _ | assumption | refine Ext.drew ?_ | refine Ext.drewN ?_ _ | refine Ext.alloc ?_ _ | refine Ext.trans ?_ (by assumption)))).mono ?_; rintro _ w1 ⟨rfl, x1⟩)
      go_ret
      exact ⟨rfl, Ext.trans (by repeat (first | exact Ext.refl _ | assumption | refine Ext.drew ?_ | refine Ext.drewN ?_ _ | refine Ext.alloc ?_ _ | refine Ext.trans ?_ (by assumption))) x1⟩
    · have e2 : (D != 0) = true := by simp [e]
      rw [decide_eq_true e]
      go_enter Try.func15, Try.ntmps15
      go_wp2_with (first
        | (go_at_call 35; refine (C1.out _ (by repeat (first | exact Ext.refl _ | assumption | refine Ext.drew ?_ | refine Ext.drewN ?_ _ | refine Ext.alloc ?_ _ | refine Ext.trans ?_ (by assumption)))).mono ?_; rintro _ w1 ⟨rfl, x1⟩; have y1 : Ext w w1 := Ext.trans (by repeat (first | exact Ext.refl _ | assumption | refine Ext.drew ?_ | refine Ext.drewN ?_ _ | refine Ext.alloc ?_ _ | refine Ext.trans ?_ (by assumption))) x1; obtain ⟨p0, p1, p2⟩ := HX.out _ x1)
        | (go_at_call 16; refine (C2.out _ y1).mono ?_; rintro _ w2 ⟨rfl, x2⟩))
      go_ret
      exact ⟨ret_bool (by simp), y1.trans x2⟩
set_option maxHeartbeats 1000000 in
theorem wtCost_yes (m n : Nat) (v : Value) (xs : List Int) (w : World) (ok : MatOk 9223372036854775807 m n xs) (hv : Ints .u64 w v xs) :
    Calls Try.prog 26 #[matV m n v] w (Ret (.int .i64 ((m * n : Nat) : Int)) w) := by
  have C1 := hid fun (W : World) (hW : Ext w W) => (ok.b ▸ mxRight 9223372036854775807 m n v xs W (by omega) (by omega) (hv.ext hW) ok.u64 : Calls Try.prog 8 #[.int .u64 9223372036854775807, matV m n v] W (Ret (.bool true) W))
  have hm := ok.hm; have hn := ok.hn
  obtain ⟨q, eq⟩ : ∃ q, m * n = q := ⟨_, rfl⟩
  have hq : q ≤ 64 * 64 := eq ▸ Nat.mul_le_mul hm.2 hn.2
  have hq2 : (m : Int) * (n : Int) = (q : Int) := by rw [← eq, Int.natCast_mul]
  rw [eq]
  unfold matV at C1
  unfold matV
  obtain ⟨a, cap, rfl, -, -, -⟩ := hv
  have HX := hid (box3 w 25 (.int .i64 m) (.int .i64 n) (.slice a xs.length cap))
  clear ok eq
  go_enter Try.func26, Try.ntmps26
  go_wp2_with (go_at_call 8; refine (C1.out _ (by repeat (first | exact Ext.refl _ | assumption | refine Ext.drew ?_ | refine Ext.drewN ?_ _ | refine Ext.alloc ?_ _ | refine Ext.trans ?_ (by assumption)))).mono ?_; rintro _ w1 ⟨rfl, x1⟩; have y1 : Ext w w1 := Ext.trans (by repeat (first | exact Ext.refl _ | assumption | refine Ext.drew ?_ | refine Ext.drewN ?_ _ | refine Ext.alloc ?_ _ | refine Ext.trans ?_ (by assumption))) x1; obtain ⟨p0, p1, p2⟩ := HX.out _ x1)
  go_ret
  exact ⟨ret_int (by go_num), y1⟩
end Go.Proofs.Ytdfkojbfgodegaa
/- The first look of layer 14's laws: it answers true. -/
namespace Go.Proofs.Ytdfkojbfgodegaa
open Go.RowKit Go.Maps

theorem okW : MatOk 9223372036854775807 2 2 [1, 2, 2, 4] := ⟨by decide, by unfold Rng; decide, by decide, by decide, rfl⟩
theorem wkS1 : sinA 7 2 2 [1, 2, 2, 4] [5, 1] = true := by decide +kernel
theorem wkS0 : sinA 7 2 2 [1, 2, 2, 4] [0, 0] = false := by decide +kernel
theorem wkM : (decide ((2 : Int) = 2) && solA 7 2 2 [1, 2, 2, 4] [1, 2] [1, 0]) = true := by decide +kernel
theorem wkV : solA 7 2 2 [1, 2, 2, 4] [2, 4] [2, 0] = true := by decide +kernel
theorem wkA : agA 7 2 2 [1, 2, 2, 4] [1, 3] [5, 1] = true := by decide +kernel
theorem wkL : losA 7 2 2 [1, 2, 2, 4] [5, 1] = true := by decide +kernel
theorem wu2 {a b : Int} (ha : 0 ≤ a ∧ a ≤ 9) (hb : 0 ≤ b ∧ b ≤ 9) : U64s [a, b] := fun x hx => by
  simp at hx
  rcases hx with rfl | rfl <;> omega
theorem wuM : U64s [1, 2, 2, 4] := by unfold U64s; decide
theorem awCS1 (W : World) (v u : Value) (h0 : Ints .u64 W v [1, 2, 2, 4]) (h1 : Ints .u64 W u [5, 1]) : Calls Try.prog 18 #[.int .u64 7, .agg #[.int .i64 2, .int .i64 2, v], u] W (Ret (.bool true) W) := by
  have h := wtSingular 7 2 2 v u [1, 2, 2, 4] [5, 1] W (by decide) (by decide) h0 wuM h1 (wu2 (by decide) (by decide))
  rw [wkS1] at h
  exact h
theorem awCS0 (W : World) (v u : Value) (h0 : Ints .u64 W v [1, 2, 2, 4]) (h1 : Ints .u64 W u [0, 0]) : Calls Try.prog 18 #[.int .u64 7, .agg #[.int .i64 2, .int .i64 2, v], u] W (Ret (.bool false) W) := by
  have h := wtSingular 7 2 2 v u [1, 2, 2, 4] [0, 0] W (by decide) (by decide) h0 wuM h1 (wu2 (by decide) (by decide))
  rw [wkS0] at h
  exact h
theorem awCM (W : World) (v u z : Value) (h0 : Ints .u64 W v [1, 2, 2, 4]) (h1 : Ints .u64 W u [1, 2]) (h2 : Ints .u64 W z [1, 0]) : Calls Try.prog 22 #[.int .u64 7, .agg #[.int .i64 2, .int .i64 2, v], u, z] W (Ret (.bool true) W) := by
  have h := wtMeets 7 2 2 v u z [1, 2, 2, 4] [1, 2] [1, 0] W (by decide) (by decide) h0 wuM h1 h2 (wu2 (by decide) (by decide))
  rw [wkM] at h
  exact h
theorem awCV (W : World) (v u z : Value) (h0 : Ints .u64 W v [1, 2, 2, 4]) (h1 : Ints .u64 W u [2, 4]) (h2 : Ints .u64 W z [2, 0]) : Calls Try.prog 14 #[.int .u64 7, .agg #[.int .i64 2, .int .i64 2, v], u, z] W (Ret (.bool true) W) := by
  have h := wtSolves 7 2 2 v u z [1, 2, 2, 4] [2, 4] [2, 0] W (by decide) (by decide) h0 wuM h1 h2 (wu2 (by decide) (by decide))
  rw [wkV] at h
  exact h
theorem awCA (W : World) (v u z : Value) (h0 : Ints .u64 W v [1, 2, 2, 4]) (h1 : Ints .u64 W u [1, 3]) (h2 : Ints .u64 W z [5, 1]) : Calls Try.prog 15 #[.int .u64 7, .agg #[.int .i64 2, .int .i64 2, v], u, z] W (Ret (.bool true) W) := by
  have h := wtAgainst 7 2 2 v u z [1, 2, 2, 4] [1, 3] [5, 1] W (by decide) (by decide) h0 wuM h1 (wu2 (by decide) (by decide)) h2 (wu2 (by decide) (by decide))
  rw [wkA] at h
  exact h
theorem awCL (W : World) (v u : Value) (h0 : Ints .u64 W v [1, 2, 2, 4]) (h1 : Ints .u64 W u [5, 1]) : Calls Try.prog 16 #[.int .u64 7, .agg #[.int .i64 2, .int .i64 2, v], u] W (Ret (.bool true) W) := by
  have h := wtLoses 7 2 2 v u [1, 2, 2, 4] [5, 1] W (by decide) (by decide) h0 wuM h1 (wu2 (by decide) (by decide))
  rw [wkL] at h
  exact h
theorem awCZ (W : World) : Calls Try.prog 25 #[.slice none 0 0] W (Ret (.bool true) W) := wtZero (.slice none 0 0) [] W Ints.nil
theorem awCZ1 (W : World) (v : Value) (h : Ints .u64 W v [0, 1]) : Calls Try.prog 25 #[v] W (Ret (.bool false) W) := wtZero v [0, 1] W h
theorem awCC (W : World) (v : Value) (h0 : Ints .u64 W v [1, 2, 2, 4]) : Calls Try.prog 26 #[.agg #[.int .i64 2, .int .i64 2, v]] W (Ret (.int .i64 4) W) := wtCost_yes 2 2 v [1, 2, 2, 4] W okW h0
set_option maxRecDepth 100000 in
set_option maxHeartbeats 4000000 in
theorem awake14 (w : World) : Calls Try.prog 6 #[] w (Ret (.bool true) w) := by
  have CS1 := hid @awCS1
  have CS0 := hid @awCS0
  have CM := hid @awCM
  have CV := hid @awCV
  have CA := hid @awCA
  have CL := hid @awCL
  have CZ := hid @awCZ
  have CZ1 := hid @awCZ1
  have CC := hid @awCC
  have hN := hid fun (W : World) (a b : Int) => Ints.lit (k := .u64) (w := W) (t := 22) [a, b] (by simp) rfl
  obtain ⟨wa, hwa⟩ : ∃ W, ((w.alloc (.cells #[.int .u64 1, .int .u64 2, .int .u64 2, .int .u64 4] 22)).alloc (.cells #[.int .i64 2, .int .i64 2, .slice (some ⟨w.heap.size, 0, none⟩) 4 4] 25)) = W := ⟨_, rfl⟩
  have IM := hid (show Ints .u64 wa (.slice (some ⟨w.heap.size, 0, none⟩) 4 4) [1, 2, 2, 4] from hwa ▸ (Ints.lit (k := .u64) (w := w) (t := 22) [1, 2, 2, 4] (by decide) rfl).alloc (.cells #[.int .i64 2, .int .i64 2, .slice (some ⟨w.heap.size, 0, none⟩) 4 4] 25))
  have HM := hid (show Blk wa (w.heap.size + 1) 25 #[.int .i64 2, .int .i64 2, .slice (some ⟨w.heap.size, 0, none⟩) 4 4] from hwa ▸ Blk.at_ (w := w.alloc (.cells #[.int .u64 1, .int .u64 2, .int .u64 2, .int .u64 4] 22)) (by rw [alloc_size]))
  have hW0 := hid (show Ext w wa from hwa ▸ ((Ext.refl w).alloc _).alloc _)
  go_enter Try.func6, Try.ntmps6
  obtain ⟨hm_0, hm_1, hm_2⟩ := HM.out.at3
  have z2 := (Ext.refl wa).alloc (.cells #[.int .u64 5, .int .u64 1] 22)
  go_wp2_with fail
  refine (CS1.out _ _ _ (IM.out.ext z2) (hN.out wa 5 1)).mono ?_
  rintro _ w1 ⟨rfl, xw1⟩
  clear hm_0 hm_1 hm_2
  obtain ⟨hm_0, hm_1, hm_2⟩ := (HM.out.ext (z2.trans xw1)).at3
  have z4 := (Ext.refl w1).alloc (.cells #[.int .u64 0, .int .u64 0] 22)
  go_wp2_with fail
  refine (CS0.out _ _ _ (IM.out.ext (z2.trans (xw1.trans z4))) (hN.out w1 0 0)).mono ?_
  rintro _ w2 ⟨rfl, xw2⟩
  clear hm_0 hm_1 hm_2
  obtain ⟨hm_0, hm_1, hm_2⟩ := (HM.out.ext (z2.trans (xw1.trans (z4.trans xw2)))).at3
  have z6 := (Ext.refl w2).alloc (.cells #[.int .u64 1, .int .u64 2] 22)
  have z7 := (Ext.refl (w2.alloc (.cells #[.int .u64 1, .int .u64 2] 22))).alloc (.cells #[.int .u64 1, .int .u64 0] 22)
  go_wp2_with fail
  have hnw3 := hN.out (w2.alloc (.cells #[.int .u64 1, .int .u64 2] 22)) 1 0
  rw [alloc_size] at hnw3
  refine (CM.out _ _ _ _ (IM.out.ext (z2.trans (xw1.trans (z4.trans (xw2.trans (z6.trans z7)))))) ((hN.out w2 1 2).ext z7) hnw3).mono ?_
  rintro _ w3 ⟨rfl, xw3⟩
  clear hm_0 hm_1 hm_2
  obtain ⟨hm_0, hm_1, hm_2⟩ := (HM.out.ext (z2.trans (xw1.trans (z4.trans (xw2.trans (z6.trans (z7.trans xw3))))))).at3
  have z9 := (Ext.refl w3).alloc (.cells #[.int .u64 2, .int .u64 4] 22)
  have z10 := (Ext.refl (w3.alloc (.cells #[.int .u64 2, .int .u64 4] 22))).alloc (.cells #[.int .u64 2, .int .u64 0] 22)
  go_wp2_with fail
  have hnw4 := hN.out (w3.alloc (.cells #[.int .u64 2, .int .u64 4] 22)) 2 0
  rw [alloc_size] at hnw4
  refine (CV.out _ _ _ _ (IM.out.ext (z2.trans (xw1.trans (z4.trans (xw2.trans (z6.trans (z7.trans (xw3.trans (z9.trans z10))))))))) ((hN.out w3 2 4).ext z10) hnw4).mono ?_
  rintro _ w4 ⟨rfl, xw4⟩
  clear hm_0 hm_1 hm_2
  obtain ⟨hm_0, hm_1, hm_2⟩ := (HM.out.ext (z2.trans (xw1.trans (z4.trans (xw2.trans (z6.trans (z7.trans (xw3.trans (z9.trans (z10.trans xw4)))))))))).at3
  have z12 := (Ext.refl w4).alloc (.cells #[.int .u64 1, .int .u64 3] 22)
  have z13 := (Ext.refl (w4.alloc (.cells #[.int .u64 1, .int .u64 3] 22))).alloc (.cells #[.int .u64 5, .int .u64 1] 22)
  go_wp2_with fail
  have hnw5 := hN.out (w4.alloc (.cells #[.int .u64 1, .int .u64 3] 22)) 5 1
  rw [alloc_size] at hnw5
  refine (CA.out _ _ _ _ (IM.out.ext (z2.trans (xw1.trans (z4.trans (xw2.trans (z6.trans (z7.trans (xw3.trans (z9.trans (z10.trans (xw4.trans (z12.trans z13)))))))))))) ((hN.out w4 1 3).ext z13) hnw5).mono ?_
  rintro _ w5 ⟨rfl, xw5⟩
  clear hm_0 hm_1 hm_2
  obtain ⟨hm_0, hm_1, hm_2⟩ := (HM.out.ext (z2.trans (xw1.trans (z4.trans (xw2.trans (z6.trans (z7.trans (xw3.trans (z9.trans (z10.trans (xw4.trans (z12.trans (z13.trans xw5))))))))))))).at3
  have z15 := (Ext.refl w5).alloc (.cells #[.int .u64 5, .int .u64 1] 22)
  go_wp2_with fail
  refine (CL.out _ _ _ (IM.out.ext (z2.trans (xw1.trans (z4.trans (xw2.trans (z6.trans (z7.trans (xw3.trans (z9.trans (z10.trans (xw4.trans (z12.trans (z13.trans (xw5.trans z15)))))))))))))) (hN.out w5 5 1)).mono ?_
  rintro _ w6 ⟨rfl, xw6⟩
  clear hm_0 hm_1 hm_2
  go_wp2_with fail
  refine (CZ.out _).mono ?_
  rintro _ w7 ⟨rfl, xw7⟩
  have z18 := (Ext.refl w7).alloc (.cells #[.int .u64 0, .int .u64 1] 22)
  go_wp2_with fail
  refine (CZ1.out _ _ (hN.out w7 0 1)).mono ?_
  rintro _ w8 ⟨rfl, xw8⟩
  obtain ⟨hm_0, hm_1, hm_2⟩ := (HM.out.ext (z2.trans (xw1.trans (z4.trans (xw2.trans (z6.trans (z7.trans (xw3.trans (z9.trans (z10.trans (xw4.trans (z12.trans (z13.trans (xw5.trans (z15.trans (xw6.trans (xw7.trans (z18.trans xw8)))))))))))))))))).at3
  go_wp2_with fail
  refine (CC.out _ _ (IM.out.ext (z2.trans (xw1.trans (z4.trans (xw2.trans (z6.trans (z7.trans (xw3.trans (z9.trans (z10.trans (xw4.trans (z12.trans (z13.trans (xw5.trans (z15.trans (xw6.trans (xw7.trans (z18.trans xw8))))))))))))))))))).mono ?_
  rintro _ w9 ⟨rfl, xw9⟩
  clear hm_0 hm_1 hm_2
  go_wp2_with fail
  go_ret
  exact ⟨rfl, (hW0.out.trans (z2.trans (xw1.trans (z4.trans (xw2.trans (z6.trans (z7.trans (xw3.trans (z9.trans (z10.trans (xw4.trans (z12.trans (z13.trans (xw5.trans (z15.trans (xw6.trans (xw7.trans (z18.trans (xw8.trans xw9)))))))))))))))))))⟩
end Go.Proofs.Ytdfkojbfgodegaa
/- The document's own answer of layer 7 that later layers ask for: a determinant, by the first row. -/
namespace Go.Proofs.Ytdfkojbfgodegaa
open Go.RowKit Go.Maps

/-- a matrix's numbers, by row and column -/
def atF (n : Nat) (xs : List Int) : Nat → Nat → Int := fun i j => xs.getD (i * n + j) 0
/-- the minor without the first row and a column, as it is built -/
def minG (N : Nat) (xs : List Int) (k : Nat) : Nat → Int := fun t => atF (N + 1) xs (t / N + 1) (skp k (t % N))
theorem minG_atF (N : Nat) (xs : List Int) (k i j : Nat) (hi : i < N) (hj : j < N) : atF N (tab (N * N) (minG N xs k)) i j = atF (N + 1) xs (i + 1) (skp k j) := by
  unfold atF
  rw [tab_get _ (at_lt hi hj)]
  show atF (N + 1) xs ((i * N + j) / N + 1) (skp k ((i * N + j) % N)) = _
  rw [at_div hj, at_mod hj]
  rfl
/-- the sum over the first row, so far -/
def detTo (N : Nat) (xs : List Int) (p : Int) (k : Nat) : Int := (sm k fun t => sg t * atF (N + 1) xs 0 t * detF N (fun i j => atF (N + 1) xs (i + 1) (skp t j))) % p
theorem detTo_all (N : Nat) (xs : List Int) (p : Int) : detTo N xs p (N + 1) = detF (N + 1) (atF (N + 1) xs) % p := by rw [detF_succ]; rfl
theorem detTo_succ (N : Nat) (xs : List Int) (p : Int) (k : Nat) : detTo N xs p (k + 1) = (if k % 2 = 0 then (detTo N xs p k + (atF (N + 1) xs 0 k * (detF N (fun i j => atF (N + 1) xs (i + 1) (skp k j)) % p)) % p) % p else (detTo N xs p k - (atF (N + 1) xs 0 k * (detF N (fun i j => atF (N + 1) xs (i + 1) (skp k j)) % p)) % p) % p) := by
  obtain ⟨D, hD⟩ : ∃ D, detF N (fun i j => atF (N + 1) xs (i + 1) (skp k j)) = D := ⟨_, rfl⟩
  have e : (sm (k + 1) fun t => sg t * atF (N + 1) xs 0 t * detF N (fun i j => atF (N + 1) xs (i + 1) (skp t j))) = (sm k fun t => sg t * atF (N + 1) xs 0 t * detF N (fun i j => atF (N + 1) xs (i + 1) (skp t j))) + sg k * atF (N + 1) xs 0 k * D := by rw [← hD]; rfl
  unfold detTo
  rw [e, hD, mm_r, ma_l, ms_l]
  by_cases h : k % 2 = 0
  · rw [if_pos h, ma_r, show sg k = 1 by unfold sg; rw [if_pos h]]
    congr 1; grind
  · rw [if_neg h, ms_r, show sg k = -1 by unfold sg; rw [if_neg h]]
    congr 1; grind
end Go.Proofs.Ytdfkojbfgodegaa
/- A right matrix taken apart over a field: its rank, its profile, its determinant, as the laws of layer 7 ask for them (in plain Lean; nothing of a program). -/
namespace Go.Proofs.Ytdfkojbfgodegaa
variable {p : Int} {m n : Nat} {xs : List Int}

/-- a matrix's row -/
def rowOf (n : Nat) (xs : List Int) (i : Nat) : List Int := tab n fun j => xs.getD (i * n + j) 0
/-- a matrix taken apart -/
noncomputable def takeL (p : Int) (m n : Nat) (xs : List Int) : ElE := (takeE p n (rowOf n xs) m).getD .nil
theorem rowOf_rng (hp : 2 ≤ p) (hx : Rng p xs) (i : Nat) : (rowOf n xs i).length = n ∧ Rng p (rowOf n xs i) := ⟨tab_len _ _, tab_rng fun _ _ => hx.getD hp _⟩
theorem takeL_some (hp : 2 ≤ p) (hf : Fld p) (hx : Rng p xs) : takeE p n (rowOf n xs) m = some (takeL p m n xs) := by
  obtain ⟨st, h⟩ := takeE_some hp hf m fun i _ => rowOf_rng (n := n) hp hx i
  unfold takeL
  rw [h]; rfl
theorem takeL_ok (hp : 2 ≤ p) (hf : Fld p) (hx : Rng p xs) : ElOk p n (rowOf n xs) m (takeL p m n xs) := takeE_ok hp m (fun i _ => rowOf_rng hp hx i) (takeL_some hp hf hx)
theorem lf_row {i j : Nat} (hj : j < n) : lf (rowOf n xs i) j = atF n xs i j := tab_get _ hj
/-- the rank of the turned one -/
theorem rank_turn (hp : 2 ≤ p) (hf : Fld p) (hx : Rng p xs) : (takeL p n m (turnL m n xs)).U.length = (takeL p m n xs).U.length := by
  have hi := hf.has hp
  have B := (takeL_ok (m := m) (n := n) hp hf hx).bas hi
  have B' := (takeL_ok (m := n) (n := m) hp hf (turnL_rng hp hx m n)).bas hi
  have e1 : ∀ i j, i < m → j < n → lf (rowOf m (turnL m n xs) j) i = lf (rowOf n xs i) j := fun i j hi hj => by
    rw [lf_row hi, lf_row hj]
    show (turnL m n xs).getD (j * m + i) 0 = xs.getD (i * n + j) 0
    rw [turnL, grid_get _ hj hi]
  refine Nat.le_antisymm (Bas.turn_le hi B (u' := fun k => lf ((takeL p n m (turnL m n xs)).U.getD k [])) ⟨B'.ind, fun j hj => (B'.gen j hj).congr fun i hi => by rw [e1 i j hi hj], fun k hk => ?_⟩) (Bas.turn_le hi B' (u' := fun k => lf ((takeL p m n xs).U.getD k [])) ⟨B.ind, fun i hi => (B.gen i hi).congr fun j hj => by rw [e1 i j hi hj], fun k hk => ?_⟩)
  · exact (B'.own k hk).trans fun j hj => (Comb.one (fun j i => lf (rowOf n xs i) j) hj).congr fun i hi => by rw [e1 i j hi hj]
  · exact (B.own k hk).trans fun i hi => (Comb.one (fun i j => lf (rowOf m (turnL m n xs) j) i) hi).congr fun j hj => by rw [e1 i j hi hj]
theorem rowsF_det (n : Nat) (xs : List Int) : detN n (rowsF n (rowOf n xs)) = detF n (atF n xs) :=
  detF_congr n (A := fun i => lf (rowOf n xs i)) fun _ _ _ hj => lf_row hj
/-- the turned one's determinant -/
theorem det_turned (hp : 2 ≤ p) (hf : Fld p) (hx : Rng p xs) : detF n (atF n (turnL n n xs)) % p = detF n (atF n xs) % p := by
  have ok := takeL_ok (m := n) (n := n) hp hf hx
  have h1 := ok.det (hf.has hp)
  have h2 := ok.det_turn (hf.has hp)
  rw [rowsF_det] at h1
  rw [h1, ← h2]
  refine congrArg (· % p) (detF_congr n fun j i hj hi => ?_)
  rw [rowsF_get hi, lf_row hj]
  show (turnL n n xs).getD (j * n + i) 0 = xs.getD (i * n + j) 0
  rw [turnL, grid_get _ hj hi]
theorem mz_prod (hp : HasInv p) {a b : Int} (ha : a % p ≠ 0) (hb : b % p ≠ 0) : a * b % p ≠ 0 := fun h => ha (mz_cancel hp hb h)
theorem prN_ne (hp : HasInv p) {d : Nat → Int} : ∀ n, (∀ k, k < n → d k % p ≠ 0) → prN n d % p ≠ 0
  | 0, _ => by show (1 : Int) % p ≠ 0; rw [hp.one]; omega
  | n + 1, h => mz_prod hp (prN_ne hp n fun k hk => h k (by omega)) (h n (by omega))
/-- the determinant isn't 0 just if all rows count -/
theorem det_rank (hp : 2 ≤ p) (hf : Fld p) (hx : Rng p xs) : detF n (atF n xs) % p = 0 ↔ (takeL p n n xs).U.length ≠ n := by
  have ok := takeL_ok (m := n) (n := n) hp hf hx
  have hi := hf.has hp
  have h1 := ok.det hi
  rw [rowsF_det] at h1
  rw [h1]
  unfold detE
  have hle := ok.le
  by_cases h : (takeL p n n xs).U.length < n
  · rw [if_pos h]
    exact ⟨fun _ => by omega, fun _ => by simp⟩
  · rw [if_neg h]
    refine ⟨fun h0 => absurd h0 (mz_prod hi (prN_ne hi n fun k hk => ?_) ?_), fun h0 => absurd (show _ = n by omega) h0⟩
    · exact ok.ech.piv k (by omega)
    · rcases sgn_or (colsZ (takeL p n n xs)) with e | e
      · rw [e, hi.one]; omega
      · rw [e]
        intro h2
        have h3 := mz_neg h2
        rw [show -(-1 : Int) = 1 by rfl, hi.one] at h3
        omega
/-- the first rows' profile -/
theorem profile_prefix (hp : 2 ≤ p) (hf : Fld p) (hx : Rng p xs) {k : Nat} (hk : k ≤ m) : ∃ t, (takeL p m n xs).rows = (takeL p k n (xs.take (k * n))).rows ++ t ∧ ∀ x ∈ t, k ≤ x := by
  have h1 := takeL_some (m := k) (n := n) hp hf (hx.take (k * n))
  have h2 := takeL_some (m := m) (n := n) hp hf hx
  have e : takeE p n (rowOf n (xs.take (k * n))) k = takeE p n (rowOf n xs) k := takeE_congr k fun i hi => tab_congr fun j hj => by
    have := at_lt hi hj
    simp only [List.getD, List.getElem?_take, if_pos this]
  rw [e] at h1
  rw [show m = k + (m - k) by omega] at h2 ⊢
  exact takeE_prefix h1 (m - k) h2
end Go.Proofs.Ytdfkojbfgodegaa
/- A right matrix taken apart makes itself again; the minor of the rows and columns that count (in plain Lean; nothing of a program). -/
namespace Go.Proofs.Ytdfkojbfgodegaa
variable {p : Int} {m n : Nat} {xs : List Int}

/-- a row of so many numbers, 0 behind -/
def padL (r : Nat) (l : List Int) : List Int := l ++ List.replicate (r - l.length) 0
theorem padL_len {r : Nat} {l : List Int} (h : l.length ≤ r) : (padL r l).length = r := by simp [padL]; omega
theorem padL_get (r : Nat) (l : List Int) (k : Nat) : (padL r l).getD k 0 = l.getD k 0 := pad_get _ _ _
/-- what parts make -/
def makeL (p : Int) (C U : List (List Int)) (m n : Nat) : List Int := grid m n fun i j => (sm U.length fun t => (C.getD i []).getD t 0 * (U.getD t []).getD j 0) % p
theorem makeL_len (C U : List (List Int)) : (makeL p C U m n).length = m * n := grid_len _ _ _
theorem map_getD {C : List (List Int)} {f : List Int → List Int} {i : Nat} (h : i < C.length) : (C.map f).getD i [] = f (C.getD i []) := by
  simp [List.getD, List.getElem?_map, List.getElem?_eq_getElem h]
theorem make_take (hp : 2 ≤ p) (hf : Fld p) (hx : Rng p xs) (hl : xs.length = m * n) (hn : 1 ≤ n) (r : Nat) : makeL p ((takeL p m n xs).C.map (padL r)) (takeL p m n xs).U m n = xs := by
  have h := takeL_ok (m := m) (n := n) hp hf hx
  symm
  refine tab_of hl fun t ht => ?_
  have hi : t / n < m := (Nat.div_lt_iff_lt_mul (by omega)).2 ht
  have hj : t % n < n := Nat.mod_lt _ (by omega)
  have e : t / n * n + t % n = t := by rw [Nat.mul_comm]; exact Nat.div_add_mod t n
  have h1 := h.full hi hj
  have h2 : (rowOf n xs (t / n)).getD (t % n) 0 = xs.getD t 0 := by rw [← e]; simp only [e]; exact (tab_get _ hj).trans (by rw [e])
  rw [h2, mod_small (hx.getD hp t).1 (hx.getD hp t).2] at h1
  rw [h1]
  congr 2
  funext k
  rw [map_getD (by rw [h.lc]; exact hi), padL_get]

/-- the columns that count, rising -/
def risL (n : Nat) (cols : List Nat) : List Nat := (List.range n).filter fun l => decide (l ∈ cols)
theorem risL_mem {cols : List Nat} {l : Nat} : l ∈ risL n cols ↔ l < n ∧ l ∈ cols := by simp [risL]
theorem risL_len {cols : List Nat} (hn : cols.Nodup) (hb : ∀ c ∈ cols, c < n) : (risL n cols).length = cols.length := by
  have h1 := offE_len hn hb
  have h2 : (risL n cols).length + (offE n cols).length = n := by
    unfold risL offE
    rw [← List.countP_eq_length_filter, ← List.countP_eq_length_filter]
    have := List.length_eq_countP_add_countP (fun l => decide (l ∈ cols)) (l := List.range n)
    rw [List.length_range] at this
    simp only [decide_not] at this ⊢
    simpa using this.symm
  omega
/-- the minor of the rows and columns that count -/
noncomputable def minorL (p : Int) (m n : Nat) (xs : List Int) : List Int :=
  grid (takeL p m n xs).U.length (takeL p m n xs).U.length fun i l => xs.getD ((takeL p m n xs).rows.getD i 0 * n + (risL n (takeL p m n xs).cols).getD l 0) 0
theorem minorL_len : (minorL p m n xs).length = (takeL p m n xs).U.length * (takeL p m n xs).U.length := grid_len _ _ _
theorem minorL_rng (hp : 2 ≤ p) (hx : Rng p xs) : Rng p (minorL p m n xs) := tab_rng fun _ _ => hx.getD hp _
theorem minor_det (hp : 2 ≤ p) (hf : Fld p) (hx : Rng p xs) : detF (takeL p m n xs).U.length (atF (takeL p m n xs).U.length (minorL p m n xs)) % p ≠ 0 := by
  have h := takeL_ok (m := m) (n := n) hp hf hx
  obtain ⟨r, hr⟩ : ∃ r, (takeL p m n xs).U.length = r := ⟨_, rfl⟩
  have hy := minorL_rng (m := m) (n := n) hp hx
  have ho := takeL_ok (m := r) (n := r) hp hf hy
  have hi := hf.has hp
  have hcols : (risL n (takeL p m n xs).cols).length = r := by
    rw [risL_len h.cols_nodup fun c hc => h.cols_lt hc, h.lk, hr]
  rw [hr]
  intro h0
  apply (det_rank hp hf hy).1 h0
  apply Nat.le_antisymm ho.le
  have hm := h.minor hi (fun l => (risL n (takeL p m n xs).cols).getD l 0) (q := r) fun k hk => by
    have hk2 : k < (takeL p m n xs).cols.length := by rw [h.lk]; exact hk
    have hmem : (takeL p m n xs).cols.getD k 0 ∈ risL n (takeL p m n xs).cols := risL_mem.2 ⟨(h.row k hk).2.2.1, by simp [List.getD, List.getElem?_eq_getElem hk2]⟩
    obtain ⟨l, hl, e⟩ := List.getElem_of_mem hmem
    exact ⟨l, by rw [← hcols]; exact hl, by simp only [List.getD, List.getElem?_eq_getElem hl, Option.getD_some]; exact e⟩
  rw [hr] at hm
  refine hm.le hi fun k hk => ((ho.bas hi).gen k hk).congr fun j hj => ?_
  congr 1
  have e1 : lf (rowOf r (minorL p m n xs) k) j = (minorL p m n xs).getD (k * r + j) 0 := tab_get _ hj
  have e2 : (minorL p m n xs).getD (k * r + j) 0 = xs.getD ((takeL p m n xs).rows.getD k 0 * n + (risL n (takeL p m n xs).cols).getD j 0) 0 := by
    unfold minorL
    rw [hr]
    exact grid_get _ hk hj
  have hc : (risL n (takeL p m n xs).cols).getD j 0 < n := by
    have hj2 : j < (risL n (takeL p m n xs).cols).length := by rw [hcols]; exact hj
    have : (risL n (takeL p m n xs).cols).getD j 0 ∈ risL n (takeL p m n xs).cols := by simp [List.getD, List.getElem?_eq_getElem hj2]
    exact (risL_mem.1 this).1
  rw [e1, e2]
  exact tab_get _ hc
end Go.Proofs.Ytdfkojbfgodegaa
/- Rows of rows of numbers; a matrix's parts in memory. -/
namespace Go.Proofs.Ytdfkojbfgodegaa
open Go.RowKit Go.Maps

/-- in the world w the slice v reads as rows of numbers -/
def UsL (w : World) (v : Value) (ls : List (List Int)) : Prop :=
  ∃ (a : Option Addr) (cap : Nat), v = .slice a ls.length cap ∧ ls.length ≤ cap ∧ cap ≤ 9223372036854775807 ∧
    (0 < ls.length → ∃ b off, a = some ⟨b, off, none⟩ ∧ b < w.heap.size ∧ ∀ j, j < ls.length → ∃ u, w.cell? ⟨b, off + j, none⟩ = some u ∧ Ints .u64 w u (ls.getD j []))
theorem UsL.ext {w w' : World} {v : Value} {ls : List (List Int)} (h : UsL w v ls) (he : Ext w w') : UsL w' v ls := by
  obtain ⟨a, cap, h1, h2, h3, h4⟩ := h
  refine ⟨a, cap, h1, h2, h3, fun hp => ?_⟩
  obtain ⟨b, off, ha, hb, hc⟩ := h4 hp
  refine ⟨b, off, ha, Nat.lt_of_lt_of_le hb he.size, fun j hj => ?_⟩
  obtain ⟨u, c1, c2⟩ := hc j hj
  exact ⟨u, (he.cells _ _ hb).trans c1, c2.ext he⟩
theorem UsL.nil {w : World} : UsL w (.slice none 0 0) [] := ⟨none, 0, rfl, by simp, by omega, by simp⟩
/-- a matrix's parts, and no error -/
def RetCup (rows cols : List Int) (C U : List (List Int)) (w : World) (e : Ending) (w' : World) : Prop :=
  ∃ rv cv Cv Uv, e = .returned (.tuple #[.agg #[rv, cv, Cv, Uv], .int .i64 0]) ∧ Ints .i64 w' rv rows ∧ Ints .i64 w' cv cols ∧ UsL w' Cv C ∧ UsL w' Uv U ∧ Ext w w'
/-- parts that may make a matrix of m rows and n columns -/
structure CupOk (p : Int) (m n : Nat) (C U : List (List Int)) : Prop where
  hp : rightB p = true
  hm : 1 ≤ m ∧ m ≤ 64
  hn : 1 ≤ n ∧ n ≤ 64
  lc : C.length = m
  c : ∀ l ∈ C, l.length = U.length ∧ Rng p l
  u : ∀ l ∈ U, l.length = n ∧ Rng p l
  hu : U.length ≤ 64
/-- a matrix's profile, as whole numbers -/
noncomputable def profZ (p : Int) (m n : Nat) (xs : List Int) : List Int := (takeL p m n xs).rows.map fun k : Nat => (k : Int)
theorem profZ_len {p : Int} {m n : Nat} {xs : List Int} (ok : MatOk p m n xs) (hf : Fld p) : (profZ p m n xs).length = (takeL p m n xs).U.length := by
  have := (takeL_ok (m := m) (n := n) (rightB_true ok.hp).1 hf ok.hx).lr
  simp [profZ, this]
theorem colsZ_len {p : Int} {m n : Nat} {xs : List Int} (ok : MatOk p m n xs) (hf : Fld p) : (colsZ (takeL p m n xs)).length = (takeL p m n xs).U.length := by
  have := (takeL_ok (m := m) (n := n) (rightB_true ok.hp).1 hf ok.hx).lk
  simp [colsZ, this]
theorem Rng.pad {p : Int} {l : List Int} (h : Rng p l) (hp : 2 ≤ p) (r : Nat) : Rng p (padL r l) := rng_app h fun x hx => by
  rw [List.eq_of_mem_replicate hx]; omega
theorem take_parts {p : Int} {m n : Nat} {xs : List Int} (ok : MatOk p m n xs) (hf : Fld p) : CupOk p m n ((takeL p m n xs).C.map (padL (takeL p m n xs).U.length)) (takeL p m n xs).U := by
  have hp := (rightB_true ok.hp).1
  have h := takeL_ok (m := m) (n := n) hp hf ok.hx
  refine ⟨ok.hp, ok.hm, ok.hn, by rw [List.length_map, h.lc], fun l hl => ?_, fun l hl => ?_, Nat.le_trans h.le ok.hm.2⟩
  · obtain ⟨k, hk, rfl⟩ := List.mem_map.1 hl
    obtain ⟨i, hi, rfl⟩ := List.getElem_of_mem hk
    have := h.cl i (by rw [← h.lc]; exact hi)
    rw [List.getD, List.getElem?_eq_getElem hi] at this
    exact ⟨padL_len this.1, this.2.pad hp _⟩
  · obtain ⟨i, hi, rfl⟩ := List.getElem_of_mem hl
    have := h.row i hi
    rw [List.getD, List.getElem?_eq_getElem hi] at this
    exact ⟨this.1, this.2.1⟩
end Go.Proofs.Ytdfkojbfgodegaa
/- Package cup: what a row is lessened by; the first number that isn't 0; rows of the call's own, apart from one another. -/
namespace Go.Proofs.Ytdfkojbfgodegaa
open Go.RowKit Go.Maps

theorem Ext.grownBy {w w' : World} (h : Ext w w') (row : Option Nat) : w.grownBy w' row := ⟨h.os, h.tape, h.output, h.size, fun k hk _ => h.block k hk⟩
theorem Ints.grown {k : IntKind} {w w' : World} {v : Value} {xs : List Int} {row : Option Nat} (h : Ints k w v xs) (hg : w.grownBy w' row) (hne : ∀ b, v.ownBlock = some b → row ≠ some b) : Ints k w' v xs := by
  obtain ⟨a, cap, rfl, h1, h2, h3⟩ := h
  refine ⟨a, cap, rfl, h1, h2, fun hp => ?_⟩
  obtain ⟨b, off, rfl, hb, hc⟩ := h3 hp
  refine ⟨b, off, rfl, Nat.lt_of_lt_of_le hb hg.size, fun j hj => ?_⟩
  rw [World.cell?_of_block (hg.block b hb fun e => hne b rfl e.symm)]
  exact hc j hj
/-- two slices that don't lie in one block -/
def Ap (v u : Value) : Prop := v.ownBlock = none ∨ v.ownBlock ≠ u.ownBlock
theorem Ap.symm {v u : Value} (h : Ap v u) : Ap u v := by
  rcases h with h | h
  · rcases hu : u.ownBlock with _ | k
    · exact .inl hu
    · exact .inr (by rw [h, hu]; simp)
  · exact .inr fun e => h e.symm
/-- an elder row and a younger one lie apart -/
theorem Ap.old {w w' : World} {b b' : Nat} {e e' : TypeId} {s s' n n' : Nat} {v u : Value} {xs ys : List Value} (h : w.ownsRow b e s v n xs) (h' : w'.ownsRow b' e' s' u n' ys) (hb : w.heap.size ≤ b') : Ap v u := by
  rcases hv : v.ownBlock with _ | k
  · exact .inl hv
  · refine .inr fun e => ?_
    rw [hv] at e
    have h1 := (h.lt k hv).2
    have h2 := (h'.lt k e.symm).1
    omega
/-- a row that has grown lies apart from what it lay apart from -/
theorem Ap.grown {w : World} {b : Nat} {e : TypeId} {s n : Nat} {v v' u : Value} {ys : List Value} (h : Ap u v) (hu : w.ownsRow b e s u n ys) (hat : v'.ownBlock = v.ownBlock ∨ v'.ownBlock = some w.heap.size) : Ap u v' := by
  rcases h with h | h
  · exact .inl h
  · rcases hv : u.ownBlock with _ | k
    · exact .inl hv
    · refine .inr fun e => ?_
      rw [hv] at e h
      rcases hat with hat | hat
      · rw [hat] at e; exact h e
      · rw [hat] at e
        have := (hu.lt k hv).2
        injection e with e
        omega
theorem own_put {w : World} {base : Nat} {e ty : TypeId} {g n : Nat} {v : Value} {xs : List Value} {cs : Array Value} (h : w.ownsRow base e 1 v n xs) (hB : Blk w g ty cs) (hty : e ≠ ty) (i : Nat) (u : Value) : (w.setCell ⟨g, i, none⟩ u).ownsRow base e 1 v n xs :=
  h.kept (setCell_grown _ _ _) (ownsRow_blk h hB hty)
theorem map_set_int (l : List Int) (j : Nat) (x : Int) : (l.map (Value.int .u64)).set j (.int .u64 x) = (l.set j x).map (Value.int .u64) := by rw [List.map_set]

set_option maxRecDepth 100000 in
set_option maxHeartbeats 1000000 in
theorem cmLessen (p x : Int) (n base g cap : Nat) (xs us : List Int) (u : Value) (w : World) (hp : rightB p = true) (hx : 0 ≤ x ∧ x < p) (hn : 1 ≤ n) (hn2 : n ≤ 64)
    (hown : w.ownsRow base 22 1 (.slice (some ⟨g, 0, none⟩) n cap) n (xs.map (Value.int .u64))) (hxs : Rng p xs) (hu : Ints .u64 w u us) (hul : us.length = n) (hus : Rng p us) (hne : ∀ k, u.ownBlock = some k → g ≠ k) :
    Calls Try.prog 74 #[.int .u64 p, .slice (some ⟨g, 0, none⟩) n cap, .int .u64 x, u] w fun e w' => e = .returned (.tuple #[]) ∧
      w'.ownsRow base 22 1 (.slice (some ⟨g, 0, none⟩) n cap) n ((tab n fun j => (xs.getD j 0 - x * us.getD j 0 % p) % p).map (Value.int .u64)) ∧ w.grownBy w' (some g) := by
  have hp2 := rightB_true hp
  have HP := hid hp
  have Hxs := hid hxs; have Hus := hid hus
  have hxl : xs.length = n := by have := hown.1; simpa using this
  obtain ⟨F, hF⟩ : ∃ F : Nat → Int, (fun j => (xs.getD j 0 - x * us.getD j 0 % p) % p) = F := ⟨_, rfl⟩
  have HF := hid (fun j => (congrFun hF j : (xs.getD j 0 - x * us.getD j 0 % p) % p = F j))
  rw [hF]
  have Hown := hid hown; have Hxl := hid hxl
  obtain ⟨a, cu, rfl, k1, k2, k3⟩ := hu
  rw [hul] at k1 k3 ⊢
  obtain ⟨b, off, rfl, hb, hc⟩ := k3 (by omega)
  have Hc := hid hc
  have hgb : g ≠ b := hne b rfl
  clear hF k3 hc hown hxl hne hul hxs hus hp
  go_enter Try.func74, Try.ntmps74
  go_wp2_with fail
  go_loopw [14] (fun iv wr => ∃ (j : Nat) (l : List Int), iv = .int .i64 j ∧ j ≤ n ∧ Hid (l.length = n) ∧ Hid (wr.ownsRow base 22 1 (.slice (some ⟨g, 0, none⟩) n cap) n (l.map (Value.int .u64))) ∧ Hid (∀ t, t < n → l.getD t 0 = if t < j then F t else xs.getD t 0) ∧ Hid (w.grownBy wr (some g))) (fun iv _ => n - (intOf iv).toNat)
  case atStart => exact ⟨0, xs, rfl, Nat.zero_le _, Hxl, Hown, hid (fun t ht => by rw [if_neg (by omega)]), hid ((Ext.refl w).grownBy _)⟩
  case round =>
    obtain ⟨j, l, rfl, hj, hl, ho, hget, hgr⟩ := hrel
    by_cases hlt : j < n
    · have gu := (World.cell?_of_block (a := ⟨b, off + j, none⟩) (hgr.out.block b hb (fun e => hgb (by injection e with e; exact e.symm)))).trans (Hc.out j hlt)
      have hlj := hget.out j hlt
      rw [if_neg (by omega)] at hlj
      have rx := Hxs.out.getD hp2.1 j
      have ru := Hus.out.getD hp2.1 j
      have hFj := HF.out j
      obtain ⟨y, ey⟩ : ∃ y, us.getD j 0 = y := ⟨_, rfl⟩
      obtain ⟨z, ez⟩ : ∃ z, xs.getD j 0 = z := ⟨_, rfl⟩
      rw [ey] at gu ru hFj; rw [ez] at hlj rx hFj
      obtain ⟨q, eq, q0, q1⟩ := name_mod (p := p) (x * y) hp2.1
      rw [eq] at hFj
      have hFr := mod_range (z - q) hp2.1
      rw [hFj] at hFr
      obtain ⟨t, et⟩ : ∃ t, F j = t := ⟨_, rfl⟩
      rw [et] at hFj hFr
      have Eq := hid eq; have Et := hid et; have HFj := hid hFj
      have gv := hid fun (W : World) (hW : Ext wr W) => (show W.cell? ⟨g, j, none⟩ = some (.int .u64 z) by
        rw [(ownsRow_ext ho.out hW).cellAt j (by omega), List.getElem?_map, List.getElem?_eq_getElem (show j < l.length by rw [hl.out]; exact hlt)]
        simp only [List.getD, List.getElem?_eq_getElem (show j < l.length by rw [hl.out]; exact hlt), Option.getD_some] at hlj
        rw [hlj]; rfl)
      have fv := hid fun (W : World) (hW : Ext wr W) => (ownsRow_ext ho.out hW).frozenAt j
      have hst := hid fun (W : World) (hW : Ext wr W) => (ownsRow_ext ho.out hW).stored j (.int .u64 t)
      clear ey ez eq et hFj hlj
      go_wp2_with (first
        | (go_at_call 41; refine (mul_as p x y q _ HP.out hx.1 hx.2 ru.1 ru.2 Eq.out).mono ?_; rintro _ w1 ⟨rfl, x1⟩; have g1 := gv.out w1 x1)
        | (go_at_call 43; refine (sub_as p z q t _ HP.out rx.1 rx.2 q0 q1 HFj.out).mono ?_; rintro _ w2 ⟨rfl, x2⟩; have x3 := x1.trans x2; have f2 := fv.out w2 x3; have g2 := gv.out w2 x3))
      have hs := hid (hst.out w2 x3)
      go_roundw
      case rel =>
        refine ⟨j + 1, l.set j t, by go_num, by omega, hid (by rw [List.length_set]; exact hl.out), hid (by rw [← map_set_int]; exact hs.out.1), hid (fun i hi => ?_), hid ((hgr.out.trans (x3.grownBy _)).trans hs.out.2)⟩
        rw [set_get l j i t (by rw [hl.out]; exact hlt)]
        by_cases e : j = i
        · subst e
          rw [if_pos rfl, if_pos (by omega), Et.out]
        · rw [if_neg e, hget.out i hi]
          by_cases e2 : i < j
          · rw [if_pos e2, if_pos (by omega)]
          · rw [if_neg e2, if_neg (by omega)]
      case measure => simp [intOf]; omega
    · obtain rfl : n = j := by omega
      have e : l = tab n F := tab_of hl.out fun t ht => by rw [hget.out t ht, if_pos ht]
      go_wp2_with fail
      go_end0
      exact ⟨rfl, by rw [← e]; exact ho.out, hgr.out⟩

set_option maxHeartbeats 400000 in
theorem cmNot0 (y : Int) (w : World) : Calls Try.prog 75 #[.int .u64 y] w fun e w' => e = .returned (.bool (y != 0)) ∧ w = w' := by
  go_enter Try.func75, Try.ntmps75
  go_wp2_with fail
  go_ret
  exact ⟨rfl, rfl⟩
/-- where the first number that isn't 0 stands -/
def leadV (l : List Int) : Int := if leadE l < l.length then (leadE l : Int) else -1
set_option maxRecDepth 100000 in
set_option maxHeartbeats 1000000 in
theorem cmIndex (v : Value) (xs : List Int) (w : World) (hv : Ints .u64 w v xs) (hx : U64s xs) (hl : xs.length ≤ 1000000) :
    Calls Try.prog 66 #[v, .func (.func 75) #[] #[]] w (Ret (.int .i64 (leadV xs)) w) := by
  have C1 := hid fun y W => cmNot0 y W
  obtain ⟨L, hL⟩ : ∃ L, leadV xs = L := ⟨_, rfl⟩
  rw [hL]
  have HL := hid hL
  have Hx := hid hx
  obtain ⟨a, cap, rfl, k1, k2, k3⟩ := hv
  have K3 := hid k3
  obtain ⟨n, en⟩ : ∃ n, xs.length = n := ⟨_, rfl⟩
  have En := hid en
  rw [en] at k1 K3 hl ⊢
  clear k3 hL en hx
  go_enter Try.func66, Try.ntmps66
  go_wp2_with fail
  go_loopw [8] (fun iv wr => ∃ (j : Nat), iv = .int .i64 j ∧ j ≤ n ∧ Hid (∀ t, t < j → xs.getD t 0 = 0) ∧ Ext w wr) (fun iv _ => n - (intOf iv).toNat)
  case atStart => exact ⟨0, rfl, Nat.zero_le _, hid (fun t ht => absurd ht (Nat.not_lt_zero _)), Ext.refl _⟩
  case round =>
    obtain ⟨j, rfl, hj, hz, hw⟩ := hrel
    by_cases hlt : j < n
    · obtain ⟨b, off, rfl, hb, hc⟩ := K3.out (by omega)
      have g1 := (hw.cells _ _ hb).trans (hc j hlt)
      have ry := Hx.out.get (k := j) (by rw [En.out]; exact hlt)
      obtain ⟨y, ey⟩ : ∃ y, xs.getD j 0 = y := ⟨_, rfl⟩
      rw [ey] at g1 ry
      have Ey := hid ey
      clear ey hc
      by_cases c : y = 0
      · have e0 : ((0 : Int) != 0) = false := by decide
        have C2 := hid (C1.out 0)
        rw [e0] at C2
        subst c
        go_wp2_with (go_at_call 75; refine (C2.out _).mono ?_; rintro _ _ ⟨rfl, rfl⟩)
        go_roundw
        case rel =>
          refine ⟨j + 1, by go_num, by omega, hid (fun t ht => ?_), hw⟩
          by_cases e : t = j
          · rw [e, Ey.out]
          · exact hz.out t (by omega)
        case measure => simp [intOf]; omega
      · have e0 : (y != 0) = true := by simp [c]
        have C2 := hid (C1.out y)
        rw [e0] at C2
        have hLj := hid (show L = (j : Int) by
          have hjl : j < xs.length := by rw [En.out]; exact hlt
          have e1 : leadE xs = j := leadE_eq hjl (by rw [Ey.out]; exact c) hz.out
          rw [← HL.out]; unfold leadV
          rw [e1, if_pos hjl])
        go_wp2_with (go_at_call 75; refine (C2.out _).mono ?_; rintro _ _ ⟨rfl, rfl⟩)
        go_ret
        exact ⟨ret_int hLj.out.symm, hw⟩
    · obtain rfl : n = j := by omega
      have hLj := hid (show L = -1 by
        have e1 : leadE xs = xs.length := leadE_all fun t ht => hz.out t (by rw [← En.out]; exact ht)
        rw [← HL.out]; unfold leadV
        rw [e1, if_neg (Nat.lt_irrefl _)])
      go_wp2_with fail
      go_ret
      exact ⟨ret_int hLj.out.symm, hw⟩
end Go.Proofs.Ytdfkojbfgodegaa
