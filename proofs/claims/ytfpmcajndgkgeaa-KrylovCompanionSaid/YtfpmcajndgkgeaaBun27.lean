/- What the texts Massey, PolyA, Pr09 show, in one text. -/
import Derived.Test.YtfpmcajndgkgeaaBun05
/- The shortest rule of a row: what it takes to be one, and how one is made longer (in plain Lean; nothing of a program). -/
namespace Go.Proofs.Ytfpmcajndgkgeaa
variable {p : Int}

/-- a series' numbers, n places further on -/
def Ser.up (n : Nat) (a : Ser p) : Ser p := .of p fun k => if k < n then 0 else a.co (k - n)
namespace Ser
theorem up_co (n : Nat) (a : Ser p) (k : Nat) : (up n a).co k = if k < n then 0 else a.co (k - n) := by
  show (if k < n then 0 else a.co (k - n)) % p = _
  split
  · exact Int.zero_emod p
  · exact a.ok _
theorem low.up {a : Ser p} {m : Nat} (h : a.low m) (n : Nat) : (up n a).low (n + m) := fun k hk => by
  rw [up_co, if_neg (by omega)]; exact h _ (by omega)
theorem up_mul (n : Nat) (a b : Ser p) : up n a * b = up n (a * b) := ext_ fun k => by
  rw [up_co, mul_co, cv]
  by_cases h : k < n
  · rw [if_pos h, sm_zero fun i hi => by rw [up_co, if_pos (by omega), Int.zero_mul], Int.zero_emod]
  · rw [if_neg h, mul_co, cv, sm_piece n (k - n + 1) (by omega) (fun i hi => by rw [up_co, if_pos hi, Int.zero_mul]) (fun i h1 h2 => by omega)]
    congr 1
    exact sm_congr fun i hi => by rw [up_co, if_neg (by omega), show n + i - n = i by omega, show k - (n + i) = k - n - i by omega]
theorem mul_co_low {a b : Ser p} {k : Nat} (h : ∀ i, 0 < i → i ≤ k → a.co i = 0 ∨ b.co (k - i) = 0) : (a * b).co k = a.co 0 * b.co k % p := by
  rw [mul_co, cv, sm_head, sm_zero (fun i hi => ?_), Int.add_zero, Nat.sub_zero]
  rcases h (i + 1) (by omega) (by omega) with h | h
  · rw [h, Int.zero_mul]
  · rw [h, Int.mul_zero]
end Ser

/-- a row (as a series) obeys a rule of this length, as far as n numbers -/
structure Ob (s c : Ser p) (l n : Nat) : Prop where
  low : c.low (l + 1)
  one : c.co 0 = 1
  obe : ∀ i, l ≤ i → i < n → (c * s).co i = 0
theorem Ob.less {s c : Ser p} {l n m : Nat} (h : Ob s c l n) (hm : m ≤ n) : Ob s c l m := ⟨h.low, h.one, fun i h1 h2 => h.obe i h1 (by omega)⟩
theorem Ob.longer {s c : Ser p} {l l' n : Nat} (h : Ob s c l n) (hl : l ≤ l') : Ob s c l' n := ⟨h.low.mono (by omega), h.one, fun i h1 h2 => h.obe i (by omega) h2⟩
theorem Ob.next {s c : Ser p} {l n : Nat} (h : Ob s c l n) (h0 : l ≤ n → (c * s).co n = 0) : Ob s c l (n + 1) := ⟨h.low, h.one, fun i h1 h2 => by
  rcases Nat.lt_or_ge i n with h3 | h3
  · exact h.obe i h1 h3
  · obtain rfl : i = n := by omega
    exact h0 h1⟩
/-- who fails at a place is no part of a short one that doesn't -/
theorem Ob.bound {s c c' : Ser p} {l l' n : Nat} (h : Ob s c l n) (hd : (c * s).co n ≠ 0) (h' : Ob s c' l' (n + 1)) : n + 1 ≤ l + l' := by
  apply Classical.byContradiction
  intro hn
  have e1 : (c' * (c * s)).co n = (c * s).co n := by
    rw [Ser.mul_co_low fun i h1 h2 => ?_, h'.one, Int.one_mul, Ser.ok]
    rcases Nat.lt_or_ge l' i with h3 | h3
    · exact .inl (h'.low i h3)
    · exact .inr (h.obe _ (by omega) (by omega))
  have e2 : (c * (c' * s)).co n = 0 := by
    rw [Ser.mul_co, cv, sm_zero fun i hi => ?_, Int.zero_emod]
    rcases Nat.lt_or_ge l i with h3 | h3
    · rw [h.low i h3, Int.zero_mul]
    · rw [h'.obe _ (by omega) (by omega), Int.mul_zero]
  rw [Ser.mul_left_comm, e1] at e2
  exact hd e2
/-- the least length of a rule -/
def LeastOb (s : Ser p) (l n : Nat) : Prop := (∃ c, Ob s c l n) ∧ ∀ c' l', Ob s c' l' n → l ≤ l'
theorem LeastOb.unique {s : Ser p} {l l' n : Nat} (h : LeastOb s l n) (h' : LeastOb s l' n) : l = l' := by
  obtain ⟨c, hc⟩ := h.1
  obtain ⟨c', hc'⟩ := h'.1
  have := h.2 c' l' hc'
  have := h'.2 c l hc
  omega
/-- what is kept from number to number: the rule so far, the least; and (unless no number but 0 came yet) the last rule ahead of a longer one, where it failed, and by what -/
structure Ma (s c b : Ser p) (l n nb : Nat) (d : Int) : Prop where
  ob : Ob s c l n
  least : ∀ c' l', Ob s c' l' n → l ≤ l'
  bef : l = 0 ∨ (nb < n ∧ ∃ lb, Ob s b lb nb ∧ l + lb = nb + 1 ∧ (b * s).co nb = d)
theorem Ma.start (s b : Ser p) (hp : 2 ≤ p) (nb : Nat) (d : Int) : Ma s 1 b 0 0 nb d :=
  ⟨⟨fun k hk => by rw [← Ser.C_one, Ser.C_co, if_neg (by omega)], by rw [← Ser.C_one, Ser.C_co, if_pos rfl]; exact mod_small (by omega) (by omega), fun i h1 h2 => by omega⟩, fun _ _ _ => Nat.zero_le _, .inl rfl⟩
/-- the rule holds there, too -/
theorem Ma.stay {s c b : Ser p} {l n nb : Nat} {d : Int} (h : Ma s c b l n nb d) (h0 : l ≤ n → (c * s).co n = 0) : Ma s c b l (n + 1) nb d :=
  ⟨h.ob.next h0, fun c' l' h' => h.least c' l' (h'.less (by omega)), h.bef.imp id fun ⟨h1, h2⟩ => ⟨by omega, h2⟩⟩
/-- the rule that is put right: what it fails by is taken away by the old one's -/
def Ser.put (c b : Ser p) (q : Int) (m : Nat) : Ser p := c - Ser.C p q * Ser.up m b
theorem put_ob {s c b : Ser p} {l n nb lb : Nat} {q : Int} (h : Ob s c l n) (hb : Ob s b lb nb) (hl : l + lb = nb + 1) (hn : nb < n) (hln : l ≤ n) (hq : q * (b * s).co nb % p = (c * s).co n) : Ob s (c.put b q (n - nb)) (max l (n + 1 - l)) (n + 1) := by
  have hlow : (Ser.C p q * Ser.up (n - nb) b).low (n - nb + (lb + 1)) := ((Ser.low_C q).mul (hb.low.up (n - nb))).mono (by omega)
  refine ⟨(h.low.mono (by omega)).sub (hlow.mono (by omega)), ?_, fun i h1 h2 => ?_⟩
  · unfold Ser.put
    rw [Ser.sub_co, Ser.C_mul_co, Ser.up_co, if_pos (by omega), Int.mul_zero, Int.zero_emod, Int.sub_zero, Ser.ok, h.one]
  · unfold Ser.put
    rw [Ser.sub_mul, Ser.mul_assoc, Ser.up_mul, Ser.sub_co, Ser.C_mul_co, Ser.up_co]
    rcases Nat.lt_or_ge i n with h3 | h3
    · rw [h.obe i (by omega) h3]
      split
      · simp
      · rw [hb.obe _ (by omega) (by omega)]; simp
    · obtain rfl : i = n := by omega
      rw [if_neg (by omega), show i - (i - nb) = nb by omega, hq, Int.sub_self, Int.zero_emod]
/-- the first number but 0: any rule of its length will do -/
theorem first_ob {s c : Ser p} {n : Nat} (hl : c.low (n + 2)) (h1 : c.co 0 = 1) : Ob s c (n + 1) (n + 1) := ⟨hl, h1, fun i h2 h3 => by omega⟩
/-- a longer rule -/
theorem Ma.grow {s c b c' : Ser p} {l n nb : Nat} {d : Int} (h : Ma s c b l n nb d) (hd : (c * s).co n ≠ 0) (hl : 2 * l ≤ n) (hc : Ob s c' (n + 1 - l) (n + 1)) : Ma s c' c (n + 1 - l) (n + 1) n ((c * s).co n) :=
  ⟨hc, fun c'' l'' h' => by have := h.ob.bound hd h'; omega, .inr ⟨by omega, l, h.ob, by omega, rfl⟩⟩
/-- a rule put right, no longer -/
theorem Ma.turn {s c b c' : Ser p} {l n nb : Nat} {d : Int} (h : Ma s c b l n nb d) (hc : Ob s c' l (n + 1)) : Ma s c' b l (n + 1) nb d :=
  ⟨hc, fun c'' l'' h' => h.least c'' l'' (h'.less (by omega)), h.bef.imp id fun ⟨h1, h2⟩ => ⟨by omega, h2⟩⟩
theorem Ma.len {s c b : Ser p} {l n nb : Nat} {d : Int} (h : Ma s c b l n nb d) (hp : 2 ≤ p) : l ≤ n :=
  h.least 1 n ⟨fun k hk => by rw [← Ser.C_one, Ser.C_co, if_neg (by omega)], by rw [← Ser.C_one, Ser.C_co, if_pos rfl]; exact mod_small (by omega) (by omega), fun i h1 h2 => by omega⟩
theorem Ma.isLeast {s c b : Ser p} {l n nb : Nat} {d : Int} (h : Ma s c b l n nb d) : LeastOb s l n := ⟨⟨c, h.ob⟩, h.least⟩
end Go.Proofs.Ytfpmcajndgkgeaa
/- What package poly's small functions answer: last, trimmed, the ring's, the last one's inverse, Right. -/
namespace Go.Proofs.Ytfpmcajndgkgeaa
open Go.RowKit

set_option maxHeartbeats 400000 in
theorem last_any (v : Value) (xs : List Int) (w : World) (hv : Ints .u64 w v xs) (h0 : 0 < xs.length) :
    Calls Try.prog 89 #[v] w fun e w' => e = .returned (.int .u64 (lead xs)) ∧ w = w' := by
  obtain ⟨a, cap, rfl, hc1, hc2, hc⟩ := hv
  obtain ⟨b, off, rfl, hb, hcell⟩ := hc h0
  have g := hcell (xs.length - 1) (by omega)
  obtain ⟨r, hr⟩ : ∃ r, lead xs = r := ⟨_, rfl⟩
  rw [show xs.getD (xs.length - 1) 0 = lead xs from rfl, hr] at g
  have Hr := hid hr
  clear hcell hr
  obtain ⟨n, hn⟩ : ∃ n, xs.length = n + 1 := ⟨xs.length - 1, by omega⟩
  rw [hn] at g hc1 ⊢
  rw [show n + 1 - 1 = n by omega] at g
  clear hc h0
  rw [Hr.out]
  clear Hr hn
  go_enter Try.func89, Try.ntmps89
  go_wp2_with fail
  go_ret
  exact ⟨rfl, rfl⟩

/-- how many are left without the noughts at the end -/
def trimN (xs : List Int) : Nat → Nat
  | 0 => 0
  | n + 1 => if xs.getD n 0 = 0 then trimN xs n else n + 1
theorem trimN_le (xs : List Int) : ∀ n, trimN xs n ≤ n
  | 0 => Nat.le_refl _
  | n + 1 => by
    have := trimN_le xs n
    unfold trimN
    split <;> omega
theorem trimN_zero (xs : List Int) : ∀ n j, trimN xs n ≤ j → j < n → xs.getD j 0 = 0
  | 0, j, _, h => by omega
  | n + 1, j, h1, h2 => by
    unfold trimN at h1
    split at h1
    · rename_i e
      by_cases hj : j = n
      · rw [hj]; exact e
      · exact trimN_zero xs n j h1 (by omega)
    · omega
theorem trimN_top (xs : List Int) : ∀ n, 0 < trimN xs n → xs.getD (trimN xs n - 1) 0 ≠ 0
  | 0, h => by simp [trimN] at h
  | n + 1, h => by
    unfold trimN at h ⊢
    split
    · rename_i e
      rw [if_pos e] at h
      exact trimN_top xs n h
    · rename_i e
      simpa using e
/-- without the noughts at the end -/
def trimL (xs : List Int) : List Int := xs.take (trimN xs xs.length)
theorem trimL_pol {p : Int} {xs : List Int} (h : Rng p xs) : Pol p (trimL xs) ∧ pol p (trimL xs) = pol p xs :=
  Pol.trim h (trimN_le _ _) (fun j hj => by
    rcases Nat.lt_or_ge j xs.length with h1 | h1
    · exact trimN_zero xs _ j hj h1
    · exact getD_over h1) (trimN_top xs _)
theorem lead_take (xs : List Int) {n : Nat} (h : n < xs.length) : lead (xs.take (n + 1)) = xs.getD n 0 := by
  unfold lead
  rw [show (xs.take (n + 1)).length = n + 1 by simp; omega]
  simp [List.getD]

set_option maxHeartbeats 400000 in
theorem trimmed_any (a : Option Addr) (cap : Nat) (xs : List Int) (w : World) (hv : Ints .u64 w (.slice a xs.length cap) xs) :
    Calls Try.prog 93 #[.slice a xs.length cap] w fun e w' => e = .returned (.slice a (trimN xs xs.length) cap) ∧ w = w' := by
  obtain ⟨T, hT⟩ : ∃ T, trimN xs xs.length = T := ⟨_, rfl⟩
  obtain ⟨L, hL⟩ : ∃ L, xs.length = L := ⟨_, rfl⟩
  have hcap : L ≤ cap ∧ cap ≤ 9223372036854775807 := by
    obtain ⟨a', cap', e, h1, h2, h3⟩ := hv
    injection e with e1 e2 e3
    omega
  rw [hL] at hv hT ⊢
  rw [hT]
  have HT := hid hT
  have Hv := hid hv
  have HL := hid hL
  clear hT hv hL
  go_enter Try.func93, Try.ntmps93
  go_wp2_with fail
  go_loop [0] (fun v => ∃ n : Nat, v = .slice a n cap ∧ n ≤ L ∧ Hid (trimN xs n = T)) (fun v => match v with | .slice _ n _ => n | _ => 0)
  case atStart => exact ⟨L, rfl, by omega, HT⟩
  case round =>
    obtain ⟨n, rfl, hn, hr⟩ := hrel
    cases n with
    | zero =>
      have e := hr.out
      have E := hid (show T = 0 by rw [← e]; rfl)
      clear e
      go_wp2_with fail
      go_ret
      exact ⟨by rw [E.out]; rfl, rfl⟩
    | succ n =>
      have hl := last_any (.slice a (n + 1) cap) (xs.take (n + 1)) w (by
        have := Hv.out.take' (n + 1) (by rw [HL.out]; omega)
        exact this) (by simp; rw [HL.out]; omega)
      rw [lead_take xs (by rw [HL.out]; omega)] at hl
      have e := hr.out
      unfold trimN at e
      obtain ⟨x, hx⟩ : ∃ x, xs.getD n 0 = x := ⟨_, rfl⟩
      rw [hx] at hl e
      have Hl := hid hl
      clear hl hr hx
      have h63 : (n : Int) + 1 ≤ (cap : Int) := by omega
      by_cases h0 : x = 0
      · rw [if_pos h0] at e
        have b0 : (x == 0) = true := by simpa using h0
        have E := hid e
        clear e h0
        go_wp2_with (go_at_call 89; refine Hl.out.mono ?_; rintro _ _ ⟨rfl, rfl⟩)
        go_round
        case rel => exact ⟨n, by go_num, by omega, E⟩
        case measure => simp
      · rw [if_neg h0] at e
        have b0 : (x == 0) = false := by simpa using h0
        have E := hid e
        clear e h0
        go_wp2_with (go_at_call 89; refine Hl.out.mono ?_; rintro _ _ ⟨rfl, rfl⟩)
        go_ret
        exact ⟨by rw [← E.out]; rfl, rfl⟩

/-! ### The ring's sums and products -/
set_option maxHeartbeats 400000 in
theorem plus_any (p a b : Int) (w : World) (hp : rightB p = true) (ha0 : 0 ≤ a) (ha : a < p) (hb0 : 0 ≤ b) (hb : b < p) :
    Calls Try.prog 108 #[.int .u64 p, .int .u64 a, .int .u64 b] w (Ret (.int .u64 ((a + b) % p)) w) := by
  have Hp := hid hp
  clear hp
  go_enter Try.func108, Try.ntmps108
  go_wp2_with (go_at_call 53; refine (add_yes p a b _ Hp.out ha0 ha hb0 hb).mono ?_; rintro _ w1 ⟨rfl, h1⟩)
  go_ret
  exact ⟨rfl, h1⟩
set_option maxHeartbeats 400000 in
theorem minus_any (p a b : Int) (w : World) (hp : rightB p = true) (ha0 : 0 ≤ a) (ha : a < p) (hb0 : 0 ≤ b) (hb : b < p) :
    Calls Try.prog 92 #[.int .u64 p, .int .u64 a, .int .u64 b] w (Ret (.int .u64 ((a - b) % p)) w) := by
  have Hp := hid hp
  clear hp
  go_enter Try.func92, Try.ntmps92
  go_wp2_with (go_at_call 44; refine (sub_yes p a b _ Hp.out ha0 ha hb0 hb).mono ?_; rintro _ w1 ⟨rfl, h1⟩)
  go_ret
  exact ⟨rfl, h1⟩
set_option maxHeartbeats 400000 in
theorem rtimes_any (p a b : Int) (w : World) (hp : rightB p = true) (ha0 : 0 ≤ a) (ha : a < p) (hb0 : 0 ≤ b) (hb : b < p) :
    Calls Try.prog 91 #[.int .u64 p, .int .u64 a, .int .u64 b] w (Ret (.int .u64 (a * b % p)) w) := by
  have Hp := hid hp
  clear hp
  go_enter Try.func91, Try.ntmps91
  go_wp2_with (go_at_call 73; refine (mul_yes p a b _ Hp.out ha0 ha hb0 hb).mono ?_; rintro _ w1 ⟨rfl, h1⟩)
  go_ret
  exact ⟨rfl, h1⟩

/-! ### The last one's inverse -/
set_option maxHeartbeats 400000 in
theorem invLast_yes (p : Int) (v : Value) (xs : List Int) (w : World) (hp : rightB p = true) (hv : Ints .u64 w v xs) (h0 : 0 < xs.length) (hr : 0 ≤ lead xs ∧ lead xs < p) (hu : unitB p (lead xs) = true) :
    Calls Try.prog 90 #[.int .u64 p, v] w (Ret (.tuple #[.int .u64 (minv p (lead xs)), .int .i64 0]) w) := by
  have hl := last_any v xs w hv h0
  obtain ⟨x, hx⟩ : ∃ x, lead xs = x := ⟨_, rfl⟩
  rw [hx] at hl hr hu ⊢
  have Hp := hid hp; have Hu := hid hu; have Hl := hid hl
  obtain ⟨a, cap, rfl, hc1, hc2, hc⟩ := hv
  have hne : ((xs.length : Int) == 0) = false := by rw [beq_eq_false_iff_ne]; omega
  clear hp hu hl hx hc
  go_enter Try.func90, Try.ntmps90
  go_wp2_with (first | (go_at_call 89; refine Hl.out.mono ?_; rintro _ _ ⟨rfl, rfl⟩) | (go_at_call 126; refine (inv_yes p x _ Hp.out hr.1 hr.2 Hu.out).mono ?_; rintro _ w1 ⟨rfl, h1⟩))
  go_ret2
  exact ⟨rfl, h1⟩
set_option maxHeartbeats 400000 in
theorem invLast_nil (p : Int) (v : Value) (w : World) (hv : Ints .u64 w v []) :
    Calls Try.prog 90 #[.int .u64 p, v] w (Ret (.tuple #[.int .u64 0, .int .i64 5]) w) := by
  obtain ⟨a, cap, rfl, hc1, hc2, hc⟩ := hv
  clear hc
  go_enter Try.func90, Try.ntmps90
  go_wp2_with fail
  go_ret2
  exact ⟨rfl, (by repeat (first | exact Ext.refl _ | assumption | refine Ext.drew ?_ | refine Ext.drewN ?_ _ | refine Ext.alloc ?_ _ | refine Ext.trans ?_ (by assumption)))⟩

/-! ### Right -/
/-- is it a polynomial that may be? -/
def rightPB (p : Int) (xs : List Int) : Bool := decide (xs.length ≤ 512) && hasB p xs && (decide (xs.length = 0) || !decide (lead xs = 0))
theorem rightPB_iff {p : Int} {xs : List Int} (hx : U64s xs) : rightPB p xs = true ↔ rightB p = true ∧ Pol p xs ∧ xs.length ≤ 512 := by
  unfold rightPB
  constructor
  · intro h
    simp only [Bool.and_eq_true, decide_eq_true_eq, Bool.or_eq_true, Bool.not_eq_true', decide_eq_false_iff_not] at h
    obtain ⟨⟨h1, h2⟩, h3⟩ := h
    obtain ⟨h4, h5⟩ := hasB_true h2
    refine ⟨h4, ⟨fun x hx' => ⟨(hx x hx').1, h5 x hx'⟩, fun h0 => ?_⟩, h1⟩
    rcases h3 with h3 | h3
    · omega
    · exact h3
  · rintro ⟨h1, h2, h3⟩
    simp only [Bool.and_eq_true, decide_eq_true_eq, Bool.or_eq_true, Bool.not_eq_true', decide_eq_false_iff_not]
    refine ⟨⟨h3, h2.rng.has h1⟩, ?_⟩
    by_cases h0 : xs.length = 0
    · exact .inl h0
    · exact .inr (h2.top (by omega))
set_option maxHeartbeats 400000 in
theorem polRight_any (p : Int) (v : Value) (xs : List Int) (w : World) (h0 : 0 ≤ p) (h1 : p ≤ 18446744073709551615) (hv : Ints .u64 w v xs) (hx : U64s xs) :
    Calls Try.prog 41 #[.int .u64 p, v] w fun e w' => e = .returned (.bool (rightPB p xs)) ∧ w = w' := by
  have Hv := hid hv; have Hx := hid hx
  obtain ⟨R, hR⟩ : ∃ R, rightPB p xs = R := ⟨_, rfl⟩
  rw [hR]
  unfold rightPB at hR
  obtain ⟨a, cap, rfl, hc1, hc2, hc⟩ := hv
  obtain ⟨L, hL⟩ : ∃ L, xs.length = L := ⟨_, rfl⟩
  have HL := hid hL
  rw [hL] at hc1 hR Hv ⊢
  clear hc hx hL
  have hh := has_any p (.slice a L cap) xs w h0 h1 Hv.out Hx.out
  obtain ⟨B, hB⟩ : ∃ B, hasB p xs = B := ⟨_, rfl⟩
  rw [hB] at hR hh
  have Hh := hid hh
  clear hB hh
  by_cases h5 : L ≤ 512
  · rw [decide_eq_true h5, Bool.true_and] at hR
    cases B with
    | false =>
      rw [Bool.false_and] at hR
      subst hR
      go_enter Try.func41, Try.ntmps41
      go_wp2_with (go_at_call 40; refine Hh.out.mono ?_; rintro _ _ ⟨rfl, rfl⟩)
      go_ret
      exact ⟨rfl, rfl⟩
    | true =>
      rw [Bool.true_and] at hR
      by_cases h6 : L = 0
      · rw [decide_eq_true h6, Bool.true_or] at hR
        subst hR
        have b1 : ((L : Int) == 0) = true := by simp [h6]
        clear h6
        go_enter Try.func41, Try.ntmps41
        go_wp2_with (go_at_call 40; refine Hh.out.mono ?_; rintro _ _ ⟨rfl, rfl⟩)
        go_ret
        exact ⟨rfl, rfl⟩
      · rw [decide_eq_false h6, Bool.false_or] at hR
        have hl := last_any (.slice a L cap) xs w Hv.out (by rw [HL.out]; omega)
        obtain ⟨x, hx⟩ : ∃ x, lead xs = x := ⟨_, rfl⟩
        rw [hx] at hl hR
        have Hl := hid hl
        have b1 : ((L : Int) == 0) = false := by simp; omega
        clear hl hx h6
        have b2 : (x != 0) = R := by rw [← hR]; by_cases e : x = 0 <;> simp [e]
        clear hR
        go_enter Try.func41, Try.ntmps41
        go_wp2_with (first | (go_at_call 40; refine Hh.out.mono ?_; rintro _ _ ⟨rfl, rfl⟩) | (go_at_call 89; refine Hl.out.mono ?_; rintro _ _ ⟨rfl, rfl⟩))
        go_ret
        exact ⟨rfl, rfl⟩
  · rw [decide_eq_false h5, Bool.false_and, Bool.false_and] at hR
    subst hR
    go_enter Try.func41, Try.ntmps41
    go_wp2_with fail
    go_ret
    exact ⟨rfl, rfl⟩
theorem polRight_yes (p : Int) (v : Value) (xs : List Int) (w : World) (hp : rightB p = true) (hv : Ints .u64 w v xs) (hx : Pol p xs) (hl : xs.length ≤ 512) :
    Calls Try.prog 41 #[.int .u64 p, v] w fun e w' => e = .returned (.bool true) ∧ w = w' := by
  have h2 := rightB_true hp
  have := polRight_any p v xs w (by omega) (by omega) hv (hx.rng.u64 h2.2)
  rw [(rightPB_iff (hx.rng.u64 h2.2)).2 ⟨hp, hx, hl⟩] at this
  exact this
end Go.Proofs.Ytfpmcajndgkgeaa
/- The law's own test of a prime. -/
namespace Go.Proofs.Ytfpmcajndgkgeaa
open Go.RowKit

set_option maxHeartbeats 400000 in
theorem prime_any09 (p : Int) (w : World) (h0 : 0 ≤ p) :
    Calls Try.prog 25 #[.int .u64 p] w fun e w' => e = .returned (.bool (takenB p)) ∧ w = w' := by
  obtain ⟨T, hT⟩ : ∃ T, takenB p = T := ⟨_, rfl⟩
  rw [hT]
  unfold takenB at hT
  by_cases h1 : p = 2147483647
  · rw [decide_eq_true h1, Bool.true_or, Bool.true_or] at hT
    subst hT
    subst h1
    go_enter Try.func25, Try.ntmps25
    go_wp2_with fail
    go_ret
    exact ⟨rfl, rfl⟩
  · rw [decide_eq_false h1, Bool.false_or] at hT
    by_cases h2 : p = 2305843009213693951
    · rw [decide_eq_true h2, Bool.true_or] at hT
      subst hT
      subst h2
      clear h1
      go_enter Try.func25, Try.ntmps25
      go_wp2_with fail
      go_ret
      exact ⟨rfl, rfl⟩
    · rw [decide_eq_false h2, Bool.false_or] at hT
      have b1 : (p == 2147483647) = false := by rw [beq_eq_false_iff_ne]; exact h1
      have b2 : (p == 2305843009213693951) = false := by rw [beq_eq_false_iff_ne]; exact h2
      clear h1 h2
      by_cases h3 : p < 1048576
      · rw [decide_eq_true h3, Bool.true_and] at hT
        have c1 := hid (Is_as p T w h0 (by omega) hT)
        clear hT
        go_enter Try.func25, Try.ntmps25
        go_wp2_with (go_at_call 54; refine c1.out.mono ?_; rintro _ _ ⟨rfl, rfl⟩)
        go_ret
        exact ⟨rfl, rfl⟩
      · rw [decide_eq_false h3, Bool.false_and] at hT
        subst hT
        go_enter Try.func25, Try.ntmps25
        go_wp2_with fail
        go_ret
        exact ⟨rfl, rfl⟩

end Go.Proofs.Ytfpmcajndgkgeaa
