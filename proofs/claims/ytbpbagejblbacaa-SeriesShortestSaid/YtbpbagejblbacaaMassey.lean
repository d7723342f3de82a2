/- The shortest rule of a row: what it takes to be one, and how one is made longer (in plain Lean; nothing of a program). -/
import Derived.Test.YtbpbagejblbacaaPolM
namespace Go.Proofs.Ytbpbagejblbacaa
variable {p : Int}

/-- a series' numbers, n places further on -/
def Ser.up (n : Nat) (a : Ser p) : Ser p := .of p fun k => if k < n then 0 else a.co (k - n)
namespace Ser
theorem up_co (n : Nat) (a : Ser p) (k : Nat) : (up n a).co k = if k < n then 0 else a.co (k - n) := by
  show (if k < n then 0 else a.co (k - n)) % p = _
  split
  · exact Int.zero_emod p
  · exact a.ok _
theorem low.up {a : Ser p} {m : Nat} (h : a.low m) (n : Nat) : (up n a).low (n + m) := fun k hk => by
  rw [up_co, if_neg (by omega)]; exact h _ (by omega)
theorem up_mul (n : Nat) (a b : Ser p) : up n a * b = up n (a * b) := ext_ fun k => by
  rw [up_co, mul_co, cv]
  by_cases h : k < n
  · rw [if_pos h, sm_zero fun i hi => by rw [up_co, if_pos (by omega), Int.zero_mul], Int.zero_emod]
  · rw [if_neg h, mul_co, cv, sm_piece n (k - n + 1) (by omega) (fun i hi => by rw [up_co, if_pos hi, Int.zero_mul]) (fun i h1 h2 => by omega)]
    congr 1
    exact sm_congr fun i hi => by rw [up_co, if_neg (by omega), show n + i - n = i by omega, show k - (n + i) = k - n - i by omega]
theorem mul_co_low {a b : Ser p} {k : Nat} (h : ∀ i, 0 < i → i ≤ k → a.co i = 0 ∨ b.co (k - i) = 0) : (a * b).co k = a.co 0 * b.co k % p := by
  rw [mul_co, cv, sm_head, sm_zero (fun i hi => ?_), Int.add_zero, Nat.sub_zero]
  rcases h (i + 1) (by omega) (by omega) with h | h
  · rw [h, Int.zero_mul]
  · rw [h, Int.mul_zero]
end Ser

/-- a row (as a series) obeys a rule of this length, as far as n numbers -/
structure Ob (s c : Ser p) (l n : Nat) : Prop where
  low : c.low (l + 1)
  one : c.co 0 = 1
  obe : ∀ i, l ≤ i → i < n → (c * s).co i = 0
theorem Ob.less {s c : Ser p} {l n m : Nat} (h : Ob s c l n) (hm : m ≤ n) : Ob s c l m := ⟨h.low, h.one, fun i h1 h2 => h.obe i h1 (by omega)⟩
theorem Ob.longer {s c : Ser p} {l l' n : Nat} (h : Ob s c l n) (hl : l ≤ l') : Ob s c l' n := ⟨h.low.mono (by omega), h.one, fun i h1 h2 => h.obe i (by omega) h2⟩
theorem Ob.next {s c : Ser p} {l n : Nat} (h : Ob s c l n) (h0 : l ≤ n → (c * s).co n = 0) : Ob s c l (n + 1) := ⟨h.low, h.one, fun i h1 h2 => by
  rcases Nat.lt_or_ge i n with h3 | h3
  · exact h.obe i h1 h3
  · obtain rfl : i = n := by omega
    exact h0 h1⟩
/-- who fails at a place is no part of a short one that doesn't -/
theorem Ob.bound {s c c' : Ser p} {l l' n : Nat} (h : Ob s c l n) (hd : (c * s).co n ≠ 0) (h' : Ob s c' l' (n + 1)) : n + 1 ≤ l + l' := by
  apply Classical.byContradiction
  intro hn
  have e1 : (c' * (c * s)).co n = (c * s).co n := by
    rw [Ser.mul_co_low fun i h1 h2 => ?_, h'.one, Int.one_mul, Ser.ok]
    rcases Nat.lt_or_ge l' i with h3 | h3
    · exact .inl (h'.low i h3)
    · exact .inr (h.obe _ (by omega) (by omega))
  have e2 : (c * (c' * s)).co n = 0 := by
    rw [Ser.mul_co, cv, sm_zero fun i hi => ?_, Int.zero_emod]
    rcases Nat.lt_or_ge l i with h3 | h3
    · rw [h.low i h3, Int.zero_mul]
    · rw [h'.obe _ (by omega) (by omega), Int.mul_zero]
  rw [Ser.mul_left_comm, e1] at e2
  exact hd e2
/-- the least length of a rule -/
def LeastOb (s : Ser p) (l n : Nat) : Prop := (∃ c, Ob s c l n) ∧ ∀ c' l', Ob s c' l' n → l ≤ l'
theorem LeastOb.unique {s : Ser p} {l l' n : Nat} (h : LeastOb s l n) (h' : LeastOb s l' n) : l = l' := by
  obtain ⟨c, hc⟩ := h.1
  obtain ⟨c', hc'⟩ := h'.1
  have := h.2 c' l' hc'
  have := h'.2 c l hc
  omega
/-- what is kept from number to number: the rule so far, the least; and (unless no number but 0 came yet) the last rule ahead of a longer one, where it failed, and by what -/
structure Ma (s c b : Ser p) (l n nb : Nat) (d : Int) : Prop where
  ob : Ob s c l n
  least : ∀ c' l', Ob s c' l' n → l ≤ l'
  bef : l = 0 ∨ (nb < n ∧ ∃ lb, Ob s b lb nb ∧ l + lb = nb + 1 ∧ (b * s).co nb = d)
theorem Ma.start (s b : Ser p) (hp : 2 ≤ p) (nb : Nat) (d : Int) : Ma s 1 b 0 0 nb d :=
  ⟨⟨fun k hk => by rw [← Ser.C_one, Ser.C_co, if_neg (by omega)], by rw [← Ser.C_one, Ser.C_co, if_pos rfl]; exact mod_small (by omega) (by omega), fun i h1 h2 => by omega⟩, fun _ _ _ => Nat.zero_le _, .inl rfl⟩
/-- the rule holds there, too -/
theorem Ma.stay {s c b : Ser p} {l n nb : Nat} {d : Int} (h : Ma s c b l n nb d) (h0 : l ≤ n → (c * s).co n = 0) : Ma s c b l (n + 1) nb d :=
  ⟨h.ob.next h0, fun c' l' h' => h.least c' l' (h'.less (by omega)), h.bef.imp id fun ⟨h1, h2⟩ => ⟨by omega, h2⟩⟩
/-- the rule that is put right: what it fails by is taken away by the old one's -/
def Ser.put (c b : Ser p) (q : Int) (m : Nat) : Ser p := c - Ser.C p q * Ser.up m b
theorem put_ob {s c b : Ser p} {l n nb lb : Nat} {q : Int} (h : Ob s c l n) (hb : Ob s b lb nb) (hl : l + lb = nb + 1) (hn : nb < n) (hln : l ≤ n) (hq : q * (b * s).co nb % p = (c * s).co n) : Ob s (c.put b q (n - nb)) (max l (n + 1 - l)) (n + 1) := by
  have hlow : (Ser.C p q * Ser.up (n - nb) b).low (n - nb + (lb + 1)) := ((Ser.low_C q).mul (hb.low.up (n - nb))).mono (by omega)
  refine ⟨(h.low.mono (by omega)).sub (hlow.mono (by omega)), ?_, fun i h1 h2 => ?_⟩
  · unfold Ser.put
    rw [Ser.sub_co, Ser.C_mul_co, Ser.up_co, if_pos (by omega), Int.mul_zero, Int.zero_emod, Int.sub_zero, Ser.ok, h.one]
  · unfold Ser.put
    rw [Ser.sub_mul, Ser.mul_assoc, Ser.up_mul, Ser.sub_co, Ser.C_mul_co, Ser.up_co]
    rcases Nat.lt_or_ge i n with h3 | h3
    · rw [h.obe i (by omega) h3]
      split
      · simp
      · rw [hb.obe _ (by omega) (by omega)]; simp
    · obtain rfl : i = n := by omega
      rw [if_neg (by omega), show i - (i - nb) = nb by omega, hq, Int.sub_self, Int.zero_emod]
/-- the first number but 0: any rule of its length will do -/
theorem first_ob {s c : Ser p} {n : Nat} (hl : c.low (n + 2)) (h1 : c.co 0 = 1) : Ob s c (n + 1) (n + 1) := ⟨hl, h1, fun i h2 h3 => by omega⟩
/-- a longer rule -/
theorem Ma.grow {s c b c' : Ser p} {l n nb : Nat} {d : Int} (h : Ma s c b l n nb d) (hd : (c * s).co n ≠ 0) (hl : 2 * l ≤ n) (hc : Ob s c' (n + 1 - l) (n + 1)) : Ma s c' c (n + 1 - l) (n + 1) n ((c * s).co n) :=
  ⟨hc, fun c'' l'' h' => by have := h.ob.bound hd h'; omega, .inr ⟨by omega, l, h.ob, by omega, rfl⟩⟩
/-- a rule put right, no longer -/
theorem Ma.turn {s c b c' : Ser p} {l n nb : Nat} {d : Int} (h : Ma s c b l n nb d) (hc : Ob s c' l (n + 1)) : Ma s c' b l (n + 1) nb d :=
  ⟨hc, fun c'' l'' h' => h.least c'' l'' (h'.less (by omega)), h.bef.imp id fun ⟨h1, h2⟩ => ⟨by omega, h2⟩⟩
theorem Ma.len {s c b : Ser p} {l n nb : Nat} {d : Int} (h : Ma s c b l n nb d) (hp : 2 ≤ p) : l ≤ n :=
  h.least 1 n ⟨fun k hk => by rw [← Ser.C_one, Ser.C_co, if_neg (by omega)], by rw [← Ser.C_one, Ser.C_co, if_pos rfl]; exact mod_small (by omega) (by omega), fun i h1 h2 => by omega⟩
theorem Ma.isLeast {s c b : Ser p} {l n nb : Nat} {d : Int} (h : Ma s c b l n nb d) : LeastOb s l n := ⟨⟨c, h.ob⟩, h.least⟩
end Go.Proofs.Ytbpbagejblbacaa
