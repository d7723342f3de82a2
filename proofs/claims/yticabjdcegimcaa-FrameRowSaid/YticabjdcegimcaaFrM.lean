/- Frames as lists of bytes: numbers as bytes, sums, what is put and what is read (in plain Lean; nothing of a program). -/
namespace Go.Proofs.Yticabjdcegimcaa

/-- a number as so many bytes, the highest first -/
def byt (n : Int) : Nat → List Int
  | 0 => []
  | m + 1 => byt (n / 256) m ++ [n % 256]
/-- of bytes: a number -/
def ofB (l : List Int) : Int := l.foldl (fun a b => a * 256 + b) 0
/-- bytes -/
def Byt (l : List Int) : Prop := ∀ x ∈ l, 0 ≤ x ∧ x < 256
theorem byt_len : ∀ (m : Nat) (n : Int), (byt n m).length = m
  | 0, _ => rfl
  | m + 1, n => by rw [byt, List.length_append, byt_len m]; rfl
theorem byt_byt : ∀ (m : Nat) (n : Int), Byt (byt n m)
  | 0, _ => fun _ h => by cases h
  | m + 1, n => fun x hx => by
    rw [byt, List.mem_append] at hx
    rcases hx with h | h
    · exact byt_byt m _ x h
    · obtain rfl : x = n % 256 := by simpa using h
      exact ⟨Int.emod_nonneg _ (by omega), Int.emod_lt_of_pos _ (by omega)⟩
theorem ofB_snoc (l : List Int) (x : Int) : ofB (l ++ [x]) = ofB l * 256 + x := by simp [ofB]
theorem ofB_byt : ∀ (m : Nat) (n : Int), 0 ≤ n → n < 256 ^ m → ofB (byt n m) = n
  | 0, n, h0, h1 => by
    have : n < 1 := by simpa using h1
    have : n = 0 := by omega
    rw [this]; rfl
  | m + 1, n, h0, h1 => by
    rw [byt, ofB_snoc, ofB_byt m (n / 256) (Int.ediv_nonneg h0 (by omega)) ((Int.ediv_lt_iff_lt_mul (by omega)).2 (by rw [← Int.pow_succ]; exact h1))]
    have := Int.ediv_mul_add_emod n 256
    omega
theorem ofB_range {l : List Int} : Byt l → 0 ≤ ofB l ∧ ofB l < 256 ^ l.length := by
  induction h : l.length generalizing l with
  | zero =>
    intro _
    obtain rfl := List.eq_nil_of_length_eq_zero h
    exact ⟨by decide, by decide⟩
  | succ m ih =>
    intro hb
    obtain ⟨l', x, rfl⟩ : ∃ l' x, l = l' ++ [x] := by
      have hne : l ≠ [] := fun e => by rw [e] at h; cases h
      exact ⟨l.dropLast, l.getLast hne, (List.dropLast_concat_getLast hne).symm⟩
    have hl : l'.length = m := by rw [List.length_append] at h; simpa using h
    obtain ⟨h1, h2⟩ := ih hl (fun y hy => hb y (List.mem_append.2 (.inl hy)))
    obtain ⟨h3, h4⟩ := hb x (by simp)
    rw [ofB_snoc, Int.pow_succ]
    constructor <;> omega
theorem byt_ofB {l : List Int} : Byt l → byt (ofB l) l.length = l := by
  induction h : l.length generalizing l with
  | zero =>
    intro _
    obtain rfl := List.eq_nil_of_length_eq_zero h
    rfl
  | succ m ih =>
    intro hb
    obtain ⟨l', x, rfl⟩ : ∃ l' x, l = l' ++ [x] := by
      have hne : l ≠ [] := fun e => by rw [e] at h; cases h
      exact ⟨l.dropLast, l.getLast hne, (List.dropLast_concat_getLast hne).symm⟩
    have hl : l'.length = m := by rw [List.length_append] at h; simpa using h
    have hb' : Byt l' := fun y hy => hb y (List.mem_append.2 (.inl hy))
    obtain ⟨h3, h4⟩ := hb x (by simp)
    rw [ofB_snoc, byt]
    have e1 : (ofB l' * 256 + x) / 256 = ofB l' := by omega
    have e2 : (ofB l' * 256 + x) % 256 = x := by omega
    rw [e1, e2, ih hl hb']
theorem ofB_inj {l l' : List Int} (h : Byt l) (h' : Byt l') (hl : l.length = l'.length) (e : ofB l = ofB l') : l = l' := by
  rw [← byt_ofB h, ← byt_ofB h', e, hl]

/-! ### Sums -/
/-- each byte times its place, from k + 1 on -/
def wsum : Nat → List Int → Int
  | _, [] => 0
  | k, x :: l => ((k : Int) + 1) * x + wsum (k + 1) l
def sumL (l : List Int) : Int := wsum 0 l % 16777213
theorem wsum_append : ∀ (k : Nat) (l l' : List Int), wsum k (l ++ l') = wsum k l + wsum (k + l.length) l'
  | k, [], l' => by simp [wsum]
  | k, x :: l, l' => by
    rw [List.cons_append, wsum, wsum, wsum_append (k + 1) l l', List.length_cons, show k + 1 + l.length = k + (l.length + 1) by omega]
    omega
theorem sumL_range (l : List Int) : 0 ≤ sumL l ∧ sumL l < 16777213 := ⟨Int.emod_nonneg _ (by omega), Int.emod_lt_of_pos _ (by omega)⟩
theorem sum_snoc (l : List Int) (x : Int) : sumL (l ++ [x]) = (sumL l + ((l.length : Int) + 1) * x) % 16777213 := by
  unfold sumL
  rw [wsum_append, Nat.zero_add]
  simp only [wsum, Int.add_zero]
  rw [Int.emod_add_emod]
theorem wsum_set : ∀ (l : List Int) (k i : Nat) (c : Int), i < l.length → wsum k (l.set i c) = wsum k l + ((k + i : Nat) + 1) * (c - l.getD i 0)
  | [], k, i, c, h => by simp at h
  | x :: l, k, 0, c, _ => by
    rw [List.set_cons_zero, wsum, wsum]
    have e : ((k + 0 : Nat) : Int) = (k : Int) := by simp
    rw [e]
    show ((k : Int) + 1) * c + _ = _ + ((k : Int) + 1) * (c - x)
    rw [Int.mul_sub]
    omega
  | x :: l, k, i + 1, c, h => by
    rw [List.set_cons_succ, wsum, wsum, wsum_set l (k + 1) i c (by simpa using h)]
    have e : (x :: l).getD (i + 1) 0 = l.getD i 0 := rfl
    rw [e, show k + 1 + i = k + (i + 1) by omega]
    omega
/-- a byte that is changed changes the sum -/
theorem sum_set {l : List Int} {i : Nat} {c : Int} (hl : Byt l) (hi : i < l.length) (h9 : l.length ≤ 60000) (hc : 0 ≤ c ∧ c < 256) (hne : l.getD i 0 ≠ c) : sumL (l.set i c) ≠ sumL l := by
  intro e
  unfold sumL at e
  rw [wsum_set l 0 i c hi, Nat.zero_add, Int.emod_eq_emod_iff_emod_sub_eq_zero] at e
  have hx : 0 ≤ l.getD i 0 ∧ l.getD i 0 < 256 := hl _ (by
    have : l.getD i 0 = l[i] := by simp [List.getD, hi]
    rw [this]; exact List.getElem_mem hi)
  obtain ⟨q, hq⟩ := Int.dvd_of_emod_eq_zero e
  generalize l.getD i 0 = x at *
  obtain ⟨d, hd⟩ : ∃ d, c - x = d := ⟨_, rfl⟩
  rw [hd] at hq
  have hd0 : d ≠ 0 := by omega
  have hd1 : -256 < d ∧ d < 256 := by omega
  have hib : (i : Int) + 1 ≤ 60000 := by omega
  have hp : wsum 0 l + ((i : Int) + 1) * d - wsum 0 l = ((i : Int) + 1) * d := by omega
  rw [hp] at hq
  have hu : ((i : Int) + 1) * d ≤ 60000 * 255 := by
    rcases Int.lt_or_le d 0 with h | h
    · have := Int.mul_nonneg (show (0 : Int) ≤ (i : Int) + 1 by omega) (show 0 ≤ -d by omega)
      rw [Int.mul_neg] at this; omega
    · exact Int.mul_le_mul hib (by omega) h (by omega)
  have hlw : -(60000 * 255) ≤ ((i : Int) + 1) * d := by
    rcases Int.lt_or_le d 0 with h | h
    · have := Int.mul_le_mul hib (show -d ≤ 255 by omega) (by omega) (by omega)
      rw [Int.mul_neg] at this; omega
    · have := Int.mul_nonneg (show (0 : Int) ≤ (i : Int) + 1 by omega) h
      omega
  have hq0 : q = 0 := by omega
  rw [hq0, Int.mul_zero] at hq
  rcases Int.mul_eq_zero.1 hq with h | h
  · omega
  · exact hd0 h
end Go.Proofs.Yticabjdcegimcaa
