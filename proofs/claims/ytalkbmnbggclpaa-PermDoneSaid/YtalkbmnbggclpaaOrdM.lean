/- Orders: lists of the numbers from 0 on, each once; their signs, and what they do one behind the other (in plain Lean; nothing of a program). -/
import Derived.Test.YtalkbmnbggclpaaMatM
namespace Go.Proofs.Ytalkbmnbggclpaa

/-- lists without repetition, held against one another -/
theorem nodup_sub {l r : List Int} (hl : l.Nodup) (hs : ∀ x ∈ l, x ∈ r) (hn : r.length ≤ l.length) : l.Perm r := by
  induction l generalizing r with
  | nil => cases r with
    | nil => exact List.Perm.refl _
    | cons a r => simp at hn
  | cons a l ih =>
    have ha := hs a (List.mem_cons_self ..)
    have hp := List.perm_cons_erase ha
    have hlen := hp.length_eq
    simp only [List.length_cons] at hlen hn
    obtain ⟨h1, h2⟩ := List.nodup_cons.1 hl
    refine (List.Perm.cons a (ih h2 (fun x hx => ?_) (by omega))).trans hp.symm
    exact (List.mem_erase_of_ne (fun e => h1 (by subst e; exact hx))).2 (hs x (List.mem_cons_of_mem _ hx))
theorem nodup_len {l r : List Int} (hl : l.Nodup) (hs : ∀ x ∈ l, x ∈ r) : l.length ≤ r.length := by
  induction l generalizing r with
  | nil => simp
  | cons a l ih =>
    have ha := hs a (List.mem_cons_self ..)
    have hlen := (List.perm_cons_erase ha).length_eq
    simp only [List.length_cons] at hlen ⊢
    obtain ⟨h1, h2⟩ := List.nodup_cons.1 hl
    have := ih h2 (r := r.erase a) fun x hx => (List.mem_erase_of_ne (fun e => h1 (by subst e; exact hx))).2 (hs x (List.mem_cons_of_mem _ hx))
    omega
/-- the numbers from 0 on, so many -/
def upL (n : Nat) : List Int := tab n fun k => (k : Int)
theorem upL_len (n : Nat) : (upL n).length = n := tab_len _ _
theorem upL_mem {n : Nat} {x : Int} : x ∈ upL n ↔ 0 ≤ x ∧ x < n := by
  simp only [upL, tab, List.mem_map, List.mem_range]
  exact ⟨fun ⟨k, h1, h2⟩ => by omega, fun ⟨h1, h2⟩ => ⟨x.toNat, by omega, by omega⟩⟩
theorem upL_nodup (n : Nat) : (upL n).Nodup := by
  unfold upL tab List.Nodup
  rw [List.pairwise_map]
  exact List.nodup_range.imp fun h => by omega
theorem upL_get {n k : Nat} (h : k < n) : (upL n).getD k 0 = k := tab_get _ h

/-- an order of n -/
structure Ord (n : Nat) (p : List Int) : Prop where
  len : p.length = n
  has : ∀ k : Nat, k < n → (k : Int) ∈ p
theorem Ord.perm {n : Nat} {p : List Int} (h : Ord n p) : (upL n).Perm p :=
  nodup_sub (upL_nodup n) (fun x hx => by
    obtain ⟨h1, h2⟩ := upL_mem.1 hx
    have := h.has x.toNat (by omega)
    rwa [Int.toNat_of_nonneg h1] at this) (by rw [h.len, upL_len]; omega)
theorem Ord.of_perm {n : Nat} {p : List Int} (h : (upL n).Perm p) : Ord n p :=
  ⟨by rw [← h.length_eq, upL_len], fun k hk => h.mem_iff.1 (upL_mem.2 (by omega))⟩
theorem Ord.nodup {n : Nat} {p : List Int} (h : Ord n p) : p.Nodup := h.perm.nodup_iff.1 (upL_nodup n)
theorem Ord.mem {n : Nat} {p : List Int} (h : Ord n p) {x : Int} (hx : x ∈ p) : 0 ≤ x ∧ x < n := upL_mem.1 (h.perm.mem_iff.2 hx)
theorem get_mem0 {p : List Int} {k : Nat} (h : k < p.length) : p.getD k 0 ∈ p := by
  rw [List.getD, List.getElem?_eq_getElem h]; exact List.getElem_mem h
theorem Ord.get {n : Nat} {p : List Int} (h : Ord n p) {k : Nat} (hk : k < n) : 0 ≤ p.getD k 0 ∧ p.getD k 0 < n := h.mem (get_mem0 (by rw [h.len]; exact hk))
theorem Ord.inj {n : Nat} {p : List Int} (h : Ord n p) {i k : Nat} (hi : i < n) (hk : k < n) (e : p.getD i 0 = p.getD k 0) : i = k := by
  have hn := h.nodup
  have li : i < p.length := by rw [h.len]; exact hi
  have lk : k < p.length := by rw [h.len]; exact hk
  rw [List.getD, List.getD, List.getElem?_eq_getElem li, List.getElem?_eq_getElem lk] at e
  have hp := List.pairwise_iff_getElem.1 hn
  rcases Nat.lt_trichotomy i k with c | c | c
  · exact absurd e (hp i k li lk c)
  · exact c
  · exact absurd e.symm (hp k i lk li c)
theorem Ord.find {n : Nat} {p : List Int} (h : Ord n p) {k : Nat} (hk : k < n) : ∃ i, i < n ∧ p.getD i 0 = k := by
  obtain ⟨i, hi, e⟩ := List.getElem_of_mem (h.has k hk)
  exact ⟨i, by rw [← h.len]; exact hi, by rw [List.getD, List.getElem?_eq_getElem hi]; exact e⟩
theorem Ord.up (n : Nat) : Ord n (upL n) := ⟨upL_len n, fun k hk => upL_mem.2 (by omega)⟩

/-! ### the sign -/
/-- how many are less -/
def cntL (a : Int) (l : List Int) : Nat := l.countP fun x => decide (x < a)
/-- the pairs that stand the wrong way round -/
def invL : List Int → Nat
  | [] => 0
  | a :: l => cntL a l + invL l
theorem cntL_cons (a x : Int) (l : List Int) : cntL a (x :: l) = cntL a l + if x < a then 1 else 0 := by
  unfold cntL; rw [List.countP_cons]; simp
theorem cntL_perm (a : Int) {l r : List Int} (h : l.Perm r) : cntL a l = cntL a r := h.countP_eq _
theorem cntL_append (a : Int) (l r : List Int) : cntL a (l ++ r) = cntL a l + cntL a r := List.countP_append
/-- an order's numbers, put through what keeps them apart: the pairs turn alike -/
theorem inv_map (f : Int → Int) {l r : List Int} (h : l.Perm r) (hl : l.Nodup) (hf : ∀ x ∈ l, ∀ y ∈ l, f x = f y → x = y) :
    (invL (l.map f) + invL l) % 2 = (invL (r.map f) + invL r) % 2 := by
  induction h with
  | nil => rfl
  | cons x h ih =>
    rename_i l1 l2
    have e1 := cntL_perm x h
    have e2 := cntL_perm (f x) (h.map f)
    have := ih (List.nodup_cons.1 hl).2 fun a ha b hb => hf a (List.mem_cons_of_mem _ ha) b (List.mem_cons_of_mem _ hb)
    simp only [List.map_cons, invL]
    omega
  | swap x y l =>
    have hne : x ≠ y := fun e => by
      subst e
      exact (List.nodup_cons.1 hl).1 (List.mem_cons_self ..)
    have hfe : f x ≠ f y := fun e => hne (hf _ (by simp) _ (by simp) e)
    simp only [List.map_cons, invL, cntL_cons]
    rcases Int.lt_or_gt_of_ne hne with h1 | h1 <;> rcases Int.lt_or_gt_of_ne hfe with h2 | h2 <;>
      simp only [h1, h2, if_true, if_neg (Int.not_lt.2 (Int.le_of_lt h1)), if_neg (Int.not_lt.2 (Int.le_of_lt h2))] <;> omega
  | trans h1 h2 ih1 ih2 =>
    rename_i l1 l2 l3
    rw [ih1 hl hf, ih2 (h1.nodup_iff.1 hl) fun a ha b hb => hf a (h1.mem_iff.2 ha) b (h1.mem_iff.2 hb)]
theorem inv_sorted {l : List Int} (h : l.Pairwise fun a b => a ≤ b) : invL l = 0 := by
  induction l with
  | nil => rfl
  | cons a l ih =>
    obtain ⟨h1, h2⟩ := List.pairwise_cons.1 h
    have : cntL a l = 0 := by
      unfold cntL
      rw [List.countP_eq_zero]
      intro b hb
      have := h1 b hb
      simp; omega
    rw [invL, ih h2, this]
theorem inv_up (n : Nat) : invL (upL n) = 0 := inv_sorted (by
  unfold upL tab
  rw [List.pairwise_map]
  exact (List.pairwise_lt_range).imp fun h => by omega)
/-- the sign -/
def sgnL (l : List Int) : Int := if invL l % 2 = 0 then 1 else -1
theorem sgn_or (l : List Int) : sgnL l = 1 ∨ sgnL l = -1 := by unfold sgnL; split <;> simp
theorem sgn_mul {a b c : List Int} (h : (invL a + invL b) % 2 = invL c % 2) : sgnL c = sgnL a * sgnL b := by
  unfold sgnL
  rcases Nat.mod_two_eq_zero_or_one (invL a) with h1 | h1 <;> rcases Nat.mod_two_eq_zero_or_one (invL b) with h2 | h2 <;>
    rw [show invL c % 2 = (invL a % 2 + invL b % 2) % 2 by omega] <;> simp [h1, h2]
theorem sgn_turn {a b : List Int} (h : (invL a + 1) % 2 = invL b % 2) : sgnL b ≠ sgnL a := by
  unfold sgnL
  rcases Nat.mod_two_eq_zero_or_one (invL a) with h1 | h1 <;> rw [show invL b % 2 = (invL a % 2 + 1) % 2 by omega] <;> simp [h1]
/-- a number that is carried along a row -/
theorem inv_carry (m : List Int) (b : Int) (l : List Int) (h : b ∉ m) : invL (m ++ b :: l) % 2 = (invL (b :: (m ++ l)) + m.length) % 2 := by
  induction m with
  | nil => simp
  | cons x m ih =>
    have hx : b ≠ x := fun e => h (by rw [e]; exact List.mem_cons_self ..)
    have := ih fun k => h (List.mem_cons_of_mem _ k)
    have e1 : cntL x (m ++ b :: l) = cntL x (m ++ l) + if b < x then 1 else 0 := by rw [cntL_append, cntL_cons, cntL_append]; omega
    simp only [List.cons_append, invL, cntL_cons, e1, List.length_cons] at this ⊢
    rcases Int.lt_or_gt_of_ne hx with h1 | h1 <;> simp only [h1, if_true, if_neg (Int.not_lt.2 (Int.le_of_lt h1))] <;> omega
/-- two numbers that are changed turn the sign -/
theorem inv_swap (l1 m l2 : List Int) (a b : Int) (h : (l1 ++ a :: m ++ b :: l2).Nodup) : (invL (l1 ++ a :: m ++ b :: l2) + 1) % 2 = invL (l1 ++ b :: m ++ a :: l2) % 2 := by
  induction l1 with
  | nil =>
    simp only [List.nil_append] at h ⊢
    have hb : b ∉ a :: m := fun k => (List.nodup_append.1 h).2.2 b k b (List.mem_cons_self ..) rfl
    have ha : a ∉ m := (List.nodup_cons.1 (List.nodup_append.1 h).1).1
    have hab : a ≠ b := fun e => hb (by rw [e]; exact List.mem_cons_self ..)
    have ham : a ∉ b :: m := fun k => by
      rcases List.mem_cons.1 k with k | k
      · exact hab k
      · exact ha k
    have h1 := inv_carry (a :: m) b l2 hb
    have h2 := inv_carry (b :: m) a l2 ham
    simp only [List.cons_append, invL, cntL_cons, List.length_cons] at h1 h2 ⊢
    rcases Int.lt_or_gt_of_ne hab with k | k <;> simp only [k, if_true, if_neg (Int.not_lt.2 (Int.le_of_lt k))] at h1 h2 ⊢ <;> omega
  | cons x l1 ih =>
    simp only [List.cons_append] at h ⊢
    have := ih (List.nodup_cons.1 h).2
    simp only [invL] at this ⊢
    have hp : (l1 ++ a :: m ++ b :: l2).Perm (l1 ++ b :: m ++ a :: l2) := by
      rw [List.append_assoc, List.append_assoc]
      refine List.Perm.append_left l1 ?_
      simp only [List.cons_append]
      exact (List.Perm.cons a List.perm_middle).trans ((List.Perm.swap b a _).trans (List.Perm.cons b List.perm_middle.symm))
    have := cntL_perm x hp
    omega
theorem inv_snoc (l : List Int) (a : Int) : invL (l ++ [a]) = invL l + l.countP fun x => decide (a < x) := by
  induction l with
  | nil => rfl
  | cons x l ih =>
    simp only [List.cons_append, invL, ih, cntL_append, List.countP_cons]
    have : cntL x [a] = if a < x then 1 else 0 := by rw [cntL_cons]; simp [cntL]
    rw [this]
    simp only [decide_eq_true_eq]
    omega

/-! ### one behind the other -/
/-- one order, and another one behind it -/
def thenL (p q : List Int) : List Int := q.map fun k => p.getD k.toNat 0
/-- what an order does to numbers -/
def doL (p x : List Int) : List Int := p.map fun k => x.getD k.toNat 0
theorem thenL_get {n : Nat} {p q : List Int} (hq : q.length = n) {k : Nat} (hk : k < n) : (thenL p q).getD k 0 = p.getD (q.getD k 0).toNat 0 := by
  simp [thenL, List.getD, List.getElem?_map, List.getElem?_eq_getElem (show k < q.length by omega)]
theorem doL_get {n : Nat} {p x : List Int} (hp : p.length = n) {k : Nat} (hk : k < n) : (doL p x).getD k 0 = x.getD (p.getD k 0).toNat 0 := thenL_get hp hk
theorem thenL_len (p q : List Int) : (thenL p q).length = q.length := by simp [thenL]
theorem doL_len (p x : List Int) : (doL p x).length = p.length := by simp [doL]
theorem thenL_up {n : Nat} {p : List Int} (hp : p.length = n) : thenL p (upL n) = p :=
  list_ext (by rw [thenL_len, upL_len, hp]) fun k hk => by
    rw [thenL_len, upL_len] at hk
    rw [thenL_get (upL_len n) hk, upL_get hk, Int.toNat_natCast]
theorem Ord.then {n : Nat} {p q : List Int} (hp : Ord n p) (hq : Ord n q) : Ord n (thenL p q) := Ord.of_perm (by
  have h := hq.perm.map fun k => p.getD k.toNat 0
  have e : (upL n).map (fun k => p.getD k.toNat 0) = p := thenL_up hp.len
  rw [e] at h
  exact hp.perm.trans h)
theorem sgn_then {n : Nat} {p q : List Int} (hp : Ord n p) (hq : Ord n q) : sgnL (thenL p q) = sgnL p * sgnL q := by
  refine sgn_mul ?_
  have h := inv_map (fun k => p.getD k.toNat 0) hq.perm (upL_nodup n) fun x hx y hy e => by
    obtain ⟨h1, h2⟩ := upL_mem.1 hx
    obtain ⟨h3, h4⟩ := upL_mem.1 hy
    have := hp.inj (i := x.toNat) (k := y.toNat) (by omega) (by omega) e
    omega
  have e : (upL n).map (fun k => p.getD k.toNat 0) = p := thenL_up hp.len
  rw [e, inv_up] at h
  show (invL p + invL q) % 2 = invL (q.map fun k => p.getD k.toNat 0) % 2
  omega
/-- where a number stands -/
def atL (p : List Int) (x : Int) : Nat := (p.findIdx? (fun y => y == x)).getD 0
theorem Ord.at_ {n : Nat} {p : List Int} (h : Ord n p) {i : Nat} (hi : i < n) : atL p (p.getD i 0) = i := by
  unfold atL
  have li : i < p.length := by rw [h.len]; exact hi
  have : p.findIdx? (fun y => y == p.getD i 0) = some i := by
    rw [List.findIdx?_eq_some_iff_getElem]
    refine ⟨li, by simp [List.getD, li], fun j hj => ?_⟩
    have lj : j < n := by omega
    simp only [Bool.not_eq_true, beq_eq_false_iff_ne]
    intro e
    have e' : p.getD j 0 = p.getD i 0 := by rw [← e, List.getD, List.getElem?_eq_getElem (show j < p.length by omega)]; rfl
    have := h.inj lj hi e'
    omega
  rw [this]; rfl
/-- what undoes an order -/
def backL (p : List Int) : List Int := tab p.length fun k => (atL p k : Int)
theorem backL_len (p : List Int) : (backL p).length = p.length := tab_len _ _
theorem Ord.at_lt {n : Nat} {p : List Int} (h : Ord n p) {k : Nat} (hk : k < n) : atL p k < n ∧ p.getD (atL p k) 0 = k := by
  obtain ⟨i, hi, e⟩ := h.find hk
  rw [← e, h.at_ hi]
  exact ⟨hi, rfl⟩
theorem Ord.back_get {n : Nat} {p : List Int} (h : Ord n p) {k : Nat} (hk : k < n) : (backL p).getD k 0 = atL p k := tab_get _ (by rw [h.len]; exact hk)
theorem Ord.then_back {n : Nat} {p : List Int} (h : Ord n p) : thenL p (backL p) = upL n :=
  list_ext (by rw [thenL_len, backL_len, h.len, upL_len]) fun k hk => by
    rw [thenL_len, backL_len, h.len] at hk
    rw [thenL_get (n := n) (by rw [backL_len, h.len]) hk, h.back_get hk, upL_get hk, Int.toNat_natCast, (h.at_lt hk).2]
theorem Ord.back_then {n : Nat} {p : List Int} (h : Ord n p) : thenL (backL p) p = upL n :=
  list_ext (by rw [thenL_len, h.len, upL_len]) fun k hk => by
    rw [thenL_len, h.len] at hk
    obtain ⟨h1, h2⟩ := h.get hk
    rw [thenL_get h.len hk, h.back_get (by omega), upL_get hk, Int.toNat_of_nonneg h1, h.at_ hk]
theorem Ord.back {n : Nat} {p : List Int} (h : Ord n p) : Ord n (backL p) := ⟨by rw [backL_len, h.len], fun k hk => by
  obtain ⟨h1, h2⟩ := h.get hk
  have e := h.back_get (k := (p.getD k 0).toNat) (by omega)
  rw [Int.toNat_of_nonneg h1, h.at_ hk] at e
  rw [← e]
  exact get_mem0 (by rw [backL_len, h.len]; omega)⟩
theorem Ord.back_back {n : Nat} {p : List Int} (h : Ord n p) : backL (backL p) = p :=
  list_ext (by rw [backL_len, backL_len]) fun k hk => by
    rw [backL_len, backL_len, h.len] at hk
    rw [h.back.back_get hk]
    have := h.back.at_ (i := (p.getD k 0).toNat) (by have := h.get hk; omega)
    rw [h.back_get (by have := h.get hk; omega), Int.toNat_of_nonneg (h.get hk).1, h.at_ hk] at this
    rw [this, Int.toNat_of_nonneg (h.get hk).1]
theorem sgn_up (n : Nat) : sgnL (upL n) = 1 := by simp [sgnL, inv_up]
theorem sgn_back {n : Nat} {p : List Int} (h : Ord n p) : sgnL (backL p) = sgnL p := by
  have := sgn_then h h.back
  rw [h.then_back, sgn_up] at this
  rcases sgn_or p with h1 | h1 <;> rcases sgn_or (backL p) with h2 | h2 <;> rw [h1, h2] at this <;> simp_all
theorem do_do {n : Nat} {p q x : List Int} (hp : p.length = n) (hq : Ord n q) : doL q (doL p x) = doL (thenL p q) x :=
  list_ext (by rw [doL_len, doL_len, thenL_len]) fun k hk => by
    rw [doL_len, hq.len] at hk
    have := hq.get hk
    rw [doL_get hq.len hk, doL_get hp (by omega), doL_get (n := n) (by rw [thenL_len, hq.len]) hk, thenL_get hq.len hk]
theorem do_up {n : Nat} {x : List Int} (hx : x.length = n) : doL (upL n) x = x :=
  thenL_up hx
theorem split_at {p : List Int} {x y : Nat} (hxy : x < y) (hy : y < p.length) : ∃ (l1 m l2 : List Int) (a b : Int), p = l1 ++ a :: m ++ b :: l2 ∧ x = l1.length ∧ y = l1.length + 1 + m.length := by
  refine ⟨p.take x, (p.drop (x + 1)).take (y - x - 1), p.drop (y + 1), p[x], p[y], ?_, by simp; omega, by simp; omega⟩
  have e1 : p.drop x = p[x] :: p.drop (x + 1) := List.drop_eq_getElem_cons (by omega)
  have e2 : p.drop y = p[y] :: p.drop (y + 1) := List.drop_eq_getElem_cons hy
  have e3 : (p.drop (x + 1)).drop (y - x - 1) = p.drop y := by rw [List.drop_drop, show x + 1 + (y - x - 1) = y by omega]
  calc p = p.take x ++ p.drop x := (List.take_append_drop x p).symm
    _ = _ := by rw [e1, ← e2, ← e3, List.append_assoc, List.cons_append, List.take_append_drop]
/-- two of an order's numbers, changed -/
theorem sgn_set {n : Nat} {p : List Int} (h : Ord n p) {x y : Nat} (hy : y < n) (hxy : x < y) :
    Ord n ((p.set x (p.getD y 0)).set y (p.getD x 0)) ∧ sgnL ((p.set x (p.getD y 0)).set y (p.getD x 0)) ≠ sgnL p := by
  have ly : y < p.length := by rw [h.len]; exact hy
  obtain ⟨l1, m, l2, a, b, rfl, rfl, rfl⟩ := split_at hxy ly
  have ga : (l1 ++ a :: m ++ b :: l2).getD l1.length 0 = a := by simp [List.getD]
  have gb : (l1 ++ a :: m ++ b :: l2).getD (l1.length + 1 + m.length) 0 = b := by
    have : l1.length + 1 + m.length = (l1 ++ a :: m).length := by simp; omega
    rw [this, List.getD, List.getElem?_append_right (Nat.le_refl _)]; simp
  have e : ((l1 ++ a :: m ++ b :: l2).set l1.length b).set (l1.length + 1 + m.length) a = l1 ++ b :: m ++ a :: l2 := by
    have h1 : (l1 ++ a :: m ++ b :: l2).set l1.length b = l1 ++ b :: m ++ b :: l2 := by simp
    have : l1.length + 1 + m.length = (l1 ++ b :: m).length := by simp; omega
    rw [h1, this, List.set_append_right _ _ (Nat.le_refl _)]; simp
  rw [ga, gb, e]
  have hs := inv_swap l1 m l2 a b h.nodup
  refine ⟨Ord.of_perm (h.perm.trans ?_), sgn_turn hs⟩
  rw [List.append_assoc, List.append_assoc]
  refine List.Perm.append_left l1 ?_
  simp only [List.cons_append]
  exact (List.Perm.cons a List.perm_middle).trans ((List.Perm.swap b a _).trans (List.Perm.cons b List.perm_middle.symm))
end Go.Proofs.Ytalkbmnbggclpaa
