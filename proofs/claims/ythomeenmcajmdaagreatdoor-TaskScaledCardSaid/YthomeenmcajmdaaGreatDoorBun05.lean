import Derived.Test.YthomeenmcajmdaaGreatDoorBun03
import Derived.Test.YthomeenmcajmdaaGreatDoorBun02
namespace Go.Proofs.YthomeenmcajmdaaGreatDoor
open Go.RowKit
set_option maxHeartbeats 1000000 in
theorem same_any (v u : Value) (xs ys : List Int) (w : World) (hv : Ints .u64 w v xs) (hu : Ints .u64 w u ys) :
    Calls Tryz.prog 14 #[v, u] w (Ret (.bool (decide (xs = ys))) w) := by
  obtain ⟨a, cap, rfl, h1, h2, h3⟩ := hv
  obtain ⟨a', cap', rfl, k1, k2, k3⟩ := hu
  have H3 := hid h3; have K3 := hid k3
  clear h3 k3
  obtain ⟨D, hD⟩ : ∃ D, decide (xs = ys) = D := ⟨_, rfl⟩
  rw [hD]
  by_cases hl : xs.length = ys.length
  · have b1 : ((xs.length : Int) != (ys.length : Int)) = false := by rw [hl]; simp
    have HD := hid hD
    have Hl := hid hl
    obtain ⟨L, hL⟩ : ∃ L, ys.length = L := ⟨_, rfl⟩
    have HL := hid hL
    rw [hl] at H3 h1 b1 ⊢
    rw [hL] at H3 K3 h1 k1 b1 ⊢
    clear hl hL hD
    go_enter Tryz.func14, Tryz.ntmps14
    go_wp2_with fail
    go_loopw [5] (fun i wr => ∃ k : Nat, i = .int .i64 k ∧ k ≤ L ∧ Hid (∀ j, j < k → xs.getD j 0 = ys.getD j 0) ∧ Ext w wr) (fun i _ => L - (intOf i).toNat)
    case atStart => exact ⟨0, rfl, Nat.zero_le _, hid (by simp), (by repeat (first | exact Ext.refl _ | assumption | refine Ext.drew ?_ | refine Ext.drewN ?_ _ | refine Ext.alloc ?_ _ | refine Ext.trans ?_ (by assumption)))⟩
    case round =>
      obtain ⟨k, rfl, hk, hall, hw⟩ := hrel
      by_cases hlt : k < L
      · obtain ⟨b, off, rfl, hb, hc⟩ := H3.out (by omega)
        obtain ⟨b', off', rfl, hb', hc'⟩ := K3.out (by omega)
        have g1 := (hw.cells _ _ hb).trans (hc k hlt)
        have g2 := (hw.cells _ _ hb').trans (hc' k hlt)
        obtain ⟨x, ex⟩ : ∃ x, xs.getD k 0 = x := ⟨_, rfl⟩
        obtain ⟨y, ey⟩ : ∃ y, ys.getD k 0 = y := ⟨_, rfl⟩
        rw [ex] at g1; rw [ey] at g2
        have Ex := hid ex; have Ey := hid ey
        clear hc hc' ex ey
        by_cases hxy : x = y
        · have b3 : (x != y) = false := by simp [hxy]
          have Hxy := hid hxy
          clear hxy
          go_wp2_with fail
          go_quiet (fail)
          go_wp2_with fail
          go_roundw
          case rel => exact ⟨k + 1, by go_num, by omega, hid (fun j hj => by
            by_cases e : j = k
            · rw [e, Ex.out, Ey.out]; exact Hxy.out
            · exact hall.out j (by omega)), hw.drewN _⟩
          case measure => simp [intOf]; omega
        · have b3 : (x != y) = true := by simp [hxy]
          have Hxy := hid hxy
          clear hxy
          go_wp2_with fail
          go_quiet (fail)
          go_wp2_with fail
          go_ret
          refine ⟨ret_bool ?_, hw.drewN _⟩
          rw [← HD.out]
          symm
          exact decide_eq_false (fun e => Hxy.out (by rw [← Ex.out, ← Ey.out, e]))
      · obtain rfl : L = k := by omega
        go_wp2_with fail
        go_ret
        refine ⟨ret_bool ?_, hw⟩
        rw [← HD.out]
        symm
        exact decide_eq_true (list_ext Hl.out fun j hj => hall.out j (by rw [← HL.out, ← Hl.out]; exact hj))
  · have b1 : ((xs.length : Int) != (ys.length : Int)) = true := by simp; omega
    have e : D = false := by rw [← hD]; exact decide_eq_false (fun e => hl (by rw [e]))
    subst e
    clear hl hD
    go_enter Tryz.func14, Tryz.ntmps14
    go_wp2_with fail
    go_ret
    exact ⟨rfl, (by repeat (first | exact Ext.refl _ | assumption | refine Ext.drew ?_ | refine Ext.drewN ?_ _ | refine Ext.alloc ?_ _ | refine Ext.trans ?_ (by assumption)))⟩
theorem same_yes (v u : Value) (xs : List Int) (w : World) (hv : Ints .u64 w v xs) (hu : Ints .u64 w u xs) :
    Calls Tryz.prog 14 #[v, u] w (Ret (.bool true) w) := by
  have := same_any v u xs xs w hv hu
  rwa [show decide (xs = xs) = true by simp] at this
end Go.Proofs.YthomeenmcajmdaaGreatDoor
namespace Go.Proofs.YthomeenmcajmdaaGreatDoor
open Go.RowKit
def IsP (n : Int) : Prop := 2 ≤ n ∧ ∀ d : Int, 2 ≤ d → d * d ≤ n → n % d ≠ 0
open Classical in
noncomputable def isB (n : Int) : Bool := decide (IsP n)
theorem isB_iff (n : Int) : isB n = true ↔ IsP n := by simp [isB]
end Go.Proofs.YthomeenmcajmdaaGreatDoor
namespace Go.Proofs.YthomeenmcajmdaaGreatDoor
open Go.RowKit
set_option maxHeartbeats 400000 in
theorem last_any (v : Value) (xs : List Int) (w : World) (hv : Ints .u64 w v xs) (h0 : 0 < xs.length) :
    Calls Tryz.prog 166 #[v] w fun e w' => e = .returned (.int .u64 (lead xs)) ∧ w = w' := by
  obtain ⟨a, cap, rfl, hc1, hc2, hc⟩ := hv
  obtain ⟨b, off, rfl, hb, hcell⟩ := hc h0
  have g := hcell (xs.length - 1) (by omega)
  obtain ⟨r, hr⟩ : ∃ r, lead xs = r := ⟨_, rfl⟩
  rw [show xs.getD (xs.length - 1) 0 = lead xs from rfl, hr] at g
  have Hr := hid hr
  clear hcell hr
  obtain ⟨n, hn⟩ : ∃ n, xs.length = n + 1 := ⟨xs.length - 1, by omega⟩
  rw [hn] at g hc1 ⊢
  rw [show n + 1 - 1 = n by omega] at g
  clear hc h0
  rw [Hr.out]
  clear Hr hn
  go_enter Tryz.func166, Tryz.ntmps166
  go_wp2_with fail
  go_ret
  exact ⟨rfl, rfl⟩
def trimN (xs : List Int) : Nat → Nat
  | 0 => 0
  | n + 1 => if xs.getD n 0 = 0 then trimN xs n else n + 1
theorem trimN_le (xs : List Int) : ∀ n, trimN xs n ≤ n
  | 0 => Nat.le_refl _
  | n + 1 => by
    have := trimN_le xs n
    unfold trimN
    split <;> omega
theorem trimN_zero (xs : List Int) : ∀ n j, trimN xs n ≤ j → j < n → xs.getD j 0 = 0
  | 0, j, _, h => by omega
  | n + 1, j, h1, h2 => by
    unfold trimN at h1
    split at h1
    · rename_i e
      by_cases hj : j = n
      · rw [hj]; exact e
      · exact trimN_zero xs n j h1 (by omega)
    · omega
theorem trimN_top (xs : List Int) : ∀ n, 0 < trimN xs n → xs.getD (trimN xs n - 1) 0 ≠ 0
  | 0, h => by simp [trimN] at h
  | n + 1, h => by
    unfold trimN at h ⊢
    split
    · rename_i e
      rw [if_pos e] at h
      exact trimN_top xs n h
    · rename_i e
      simpa using e
def trimL (xs : List Int) : List Int := xs.take (trimN xs xs.length)
theorem trimL_pol {p : Int} {xs : List Int} (h : Rng p xs) : Pol p (trimL xs) ∧ pol p (trimL xs) = pol p xs :=
  Pol.trim h (trimN_le _ _) (fun j hj => by
    rcases Nat.lt_or_ge j xs.length with h1 | h1
    · exact trimN_zero xs _ j hj h1
    · exact getD_over h1) (trimN_top xs _)
theorem lead_take (xs : List Int) {n : Nat} (h : n < xs.length) : lead (xs.take (n + 1)) = xs.getD n 0 := by
  unfold lead
  rw [show (xs.take (n + 1)).length = n + 1 by simp; omega]
  simp [List.getD]
set_option maxHeartbeats 400000 in
theorem trimmed_any (a : Option Addr) (cap : Nat) (xs : List Int) (w : World) (hv : Ints .u64 w (.slice a xs.length cap) xs) :
    Calls Tryz.prog 161 #[.slice a xs.length cap] w fun e w' => e = .returned (.slice a (trimN xs xs.length) cap) ∧ w = w' := by
  obtain ⟨T, hT⟩ : ∃ T, trimN xs xs.length = T := ⟨_, rfl⟩
  obtain ⟨L, hL⟩ : ∃ L, xs.length = L := ⟨_, rfl⟩
  have hcap : L ≤ cap ∧ cap ≤ 9223372036854775807 := by
    obtain ⟨a', cap', e, h1, h2, h3⟩ := hv
    injection e with e1 e2 e3
    omega
  rw [hL] at hv hT ⊢
  rw [hT]
  have HT := hid hT
  have Hv := hid hv
  have HL := hid hL
  clear hT hv hL
  go_enter Tryz.func161, Tryz.ntmps161
  go_wp2_with fail
  go_loop [0] (fun v => ∃ n : Nat, v = .slice a n cap ∧ n ≤ L ∧ Hid (trimN xs n = T)) (fun v => match v with | .slice _ n _ => n | _ => 0)
  case atStart => exact ⟨L, rfl, by omega, HT⟩
  case round =>
    obtain ⟨n, rfl, hn, hr⟩ := hrel
    cases n with
    | zero =>
      have e := hr.out
      have E := hid (show T = 0 by rw [← e]; rfl)
      clear e
      go_wp2_with fail
      go_ret
      exact ⟨by rw [E.out]; rfl, rfl⟩
    | succ n =>
      have hl := last_any (.slice a (n + 1) cap) (xs.take (n + 1)) w (by
        have := Hv.out.take' (n + 1) (by rw [HL.out]; omega)
        exact this) (by simp; rw [HL.out]; omega)
      rw [lead_take xs (by rw [HL.out]; omega)] at hl
      have e := hr.out
      unfold trimN at e
      obtain ⟨x, hx⟩ : ∃ x, xs.getD n 0 = x := ⟨_, rfl⟩
      rw [hx] at hl e
      have Hl := hid hl
      clear hl hr hx
      have h63 : (n : Int) + 1 ≤ (cap : Int) := by omega
      by_cases h0 : x = 0
      · rw [if_pos h0] at e
        have b0 : (x == 0) = true := by simpa using h0
        have E := hid e
        clear e h0
        go_wp2_with (go_at_call 166; refine Hl.out.mono ?_; rintro _ _ ⟨rfl, rfl⟩)
        go_round
        case rel => exact ⟨n, by go_num, by omega, E⟩
        case measure => simp
      · rw [if_neg h0] at e
        have b0 : (x == 0) = false := by simpa using h0
        have E := hid e
        clear e h0
        go_wp2_with (go_at_call 166; refine Hl.out.mono ?_; rintro _ _ ⟨rfl, rfl⟩)
        go_ret
        exact ⟨by rw [← E.out]; rfl, rfl⟩
set_option maxHeartbeats 400000 in
theorem minus_any (p a b : Int) (w : World) (hp : rightB p = true) (ha0 : 0 ≤ a) (ha : a < p) (hb0 : 0 ≤ b) (hb : b < p) :
    Calls Tryz.prog 167 #[.int .u64 p, .int .u64 a, .int .u64 b] w (Ret (.int .u64 ((a - b) % p)) w) := by
  have Hp := hid hp
  clear hp
  go_enter Tryz.func167, Tryz.ntmps167
  go_wp2_with (go_at_call 113; refine (sub_yes p a b _ Hp.out ha0 ha hb0 hb).mono ?_; rintro _ w1 ⟨rfl, h1⟩)
  go_ret
  exact ⟨rfl, h1⟩
set_option maxHeartbeats 400000 in
theorem rtimes_any (p a b : Int) (w : World) (hp : rightB p = true) (ha0 : 0 ≤ a) (ha : a < p) (hb0 : 0 ≤ b) (hb : b < p) :
    Calls Tryz.prog 165 #[.int .u64 p, .int .u64 a, .int .u64 b] w (Ret (.int .u64 (a * b % p)) w) := by
  have Hp := hid hp
  clear hp
  go_enter Tryz.func165, Tryz.ntmps165
  go_wp2_with (go_at_call 103; refine (mul_yes p a b _ Hp.out ha0 ha hb0 hb).mono ?_; rintro _ w1 ⟨rfl, h1⟩)
  go_ret
  exact ⟨rfl, h1⟩
set_option maxHeartbeats 400000 in
theorem invLast_yes (p : Int) (v : Value) (xs : List Int) (w : World) (hp : rightB p = true) (hv : Ints .u64 w v xs) (h0 : 0 < xs.length) (hr : 0 ≤ lead xs ∧ lead xs < p) (hu : unitB p (lead xs) = true) :
    Calls Tryz.prog 164 #[.int .u64 p, v] w (Ret (.tuple #[.int .u64 (minv p (lead xs)), .int .i64 0]) w) := by
  have hl := last_any v xs w hv h0
  obtain ⟨x, hx⟩ : ∃ x, lead xs = x := ⟨_, rfl⟩
  rw [hx] at hl hr hu ⊢
  have Hp := hid hp; have Hu := hid hu; have Hl := hid hl
  obtain ⟨a, cap, rfl, hc1, hc2, hc⟩ := hv
  have hne : ((xs.length : Int) == 0) = false := by rw [beq_eq_false_iff_ne]; omega
  clear hp hu hl hx hc
  go_enter Tryz.func164, Tryz.ntmps164
  go_wp2_with (first | (go_at_call 166; refine Hl.out.mono ?_; rintro _ _ ⟨rfl, rfl⟩) | (go_at_call 107; refine (inv_yes p x _ Hp.out hr.1 hr.2 Hu.out).mono ?_; rintro _ w1 ⟨rfl, h1⟩))
  go_ret2
  exact ⟨rfl, h1⟩
def rightPB (p : Int) (xs : List Int) : Bool := decide (xs.length ≤ 512) && hasB p xs && (decide (xs.length = 0) || !decide (lead xs = 0))
theorem rightPB_iff {p : Int} {xs : List Int} (hx : U64s xs) : rightPB p xs = true ↔ rightB p = true ∧ Pol p xs ∧ xs.length ≤ 512 := by
  unfold rightPB
  constructor
  · intro h
    simp only [Bool.and_eq_true, decide_eq_true_eq, Bool.or_eq_true, Bool.not_eq_true', decide_eq_false_iff_not] at h
    obtain ⟨⟨h1, h2⟩, h3⟩ := h
    obtain ⟨h4, h5⟩ := hasB_true h2
    refine ⟨h4, ⟨fun x hx' => ⟨(hx x hx').1, h5 x hx'⟩, fun h0 => ?_⟩, h1⟩
    rcases h3 with h3 | h3
    · omega
    · exact h3
  · rintro ⟨h1, h2, h3⟩
    simp only [Bool.and_eq_true, decide_eq_true_eq, Bool.or_eq_true, Bool.not_eq_true', decide_eq_false_iff_not]
    refine ⟨⟨h3, h2.rng.has h1⟩, ?_⟩
    by_cases h0 : xs.length = 0
    · exact .inl h0
    · exact .inr (h2.top (by omega))
set_option maxHeartbeats 400000 in
theorem polRight_any (p : Int) (v : Value) (xs : List Int) (w : World) (h0 : 0 ≤ p) (h1 : p ≤ 18446744073709551615) (hv : Ints .u64 w v xs) (hx : U64s xs) :
    Calls Tryz.prog 163 #[.int .u64 p, v] w fun e w' => e = .returned (.bool (rightPB p xs)) ∧ w = w' := by
  have Hv := hid hv; have Hx := hid hx
  obtain ⟨R, hR⟩ : ∃ R, rightPB p xs = R := ⟨_, rfl⟩
  rw [hR]
  unfold rightPB at hR
  obtain ⟨a, cap, rfl, hc1, hc2, hc⟩ := hv
  obtain ⟨L, hL⟩ : ∃ L, xs.length = L := ⟨_, rfl⟩
  have HL := hid hL
  rw [hL] at hc1 hR Hv ⊢
  clear hc hx hL
  have hh := has_any p (.slice a L cap) xs w h0 h1 Hv.out Hx.out
  obtain ⟨B, hB⟩ : ∃ B, hasB p xs = B := ⟨_, rfl⟩
  rw [hB] at hR hh
  have Hh := hid hh
  clear hB hh
  by_cases h5 : L ≤ 512
  · rw [decide_eq_true h5, Bool.true_and] at hR
    cases B with
    | false =>
      rw [Bool.false_and] at hR
      subst hR
      go_enter Tryz.func163, Tryz.ntmps163
      go_wp2_with (go_at_call 60; refine Hh.out.mono ?_; rintro _ _ ⟨rfl, rfl⟩)
      go_ret
      exact ⟨rfl, rfl⟩
    | true =>
      rw [Bool.true_and] at hR
      by_cases h6 : L = 0
      · rw [decide_eq_true h6, Bool.true_or] at hR
        subst hR
        have b1 : ((L : Int) == 0) = true := by simp [h6]
        clear h6
        go_enter Tryz.func163, Tryz.ntmps163
        go_wp2_with (go_at_call 60; refine Hh.out.mono ?_; rintro _ _ ⟨rfl, rfl⟩)
        go_ret
        exact ⟨rfl, rfl⟩
      · rw [decide_eq_false h6, Bool.false_or] at hR
        have hl := last_any (.slice a L cap) xs w Hv.out (by rw [HL.out]; omega)
        obtain ⟨x, hx⟩ : ∃ x, lead xs = x := ⟨_, rfl⟩
        rw [hx] at hl hR
        have Hl := hid hl
        have b1 : ((L : Int) == 0) = false := by simp; omega
        clear hl hx h6
        have b2 : (x != 0) = R := by rw [← hR]; by_cases e : x = 0 <;> simp [e]
        clear hR
        go_enter Tryz.func163, Tryz.ntmps163
        go_wp2_with (first | (go_at_call 60; refine Hh.out.mono ?_; rintro _ _ ⟨rfl, rfl⟩) | (go_at_call 166; refine Hl.out.mono ?_; rintro _ _ ⟨rfl, rfl⟩))
        go_ret
        exact ⟨rfl, rfl⟩
  · rw [decide_eq_false h5, Bool.false_and, Bool.false_and] at hR
    subst hR
    go_enter Tryz.func163, Tryz.ntmps163
    go_wp2_with fail
    go_ret
    exact ⟨rfl, rfl⟩
theorem polRight_yes (p : Int) (v : Value) (xs : List Int) (w : World) (hp : rightB p = true) (hv : Ints .u64 w v xs) (hx : Pol p xs) (hl : xs.length ≤ 512) :
    Calls Tryz.prog 163 #[.int .u64 p, v] w fun e w' => e = .returned (.bool true) ∧ w = w' := by
  have h2 := rightB_true hp
  have := polRight_any p v xs w (by omega) (by omega) hv (hx.rng.u64 h2.2)
  rw [(rightPB_iff (hx.rng.u64 h2.2)).2 ⟨hp, hx, hl⟩] at this
  exact this
end Go.Proofs.YthomeenmcajmdaaGreatDoor
