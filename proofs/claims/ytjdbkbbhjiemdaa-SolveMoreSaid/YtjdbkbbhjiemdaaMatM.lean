/- Matrices as rows of numbers: places, sums of sums, products (in plain Lean; nothing of a program). -/
import Derived.Test.YtjdbkbbhjiemdaaPiece
import Derived.Test.YtjdbkbbhjiemdaaFld
namespace Go.Proofs.Ytjdbkbbhjiemdaa
variable {p : Int}

/-- the numbers f 0, f 1 and so on, n of them -/
def tab (n : Nat) (f : Nat → Int) : List Int := (List.range n).map f
theorem tab_len (n : Nat) (f : Nat → Int) : (tab n f).length = n := by simp [tab]
theorem tab_get {n k : Nat} (f : Nat → Int) (h : k < n) : (tab n f).getD k 0 = f k := by simp [tab, List.getD, h]
theorem tab_succ (n : Nat) (f : Nat → Int) : tab (n + 1) f = tab n f ++ [f n] := by simp [tab, List.range_succ]
theorem tab_congr {n : Nat} {f g : Nat → Int} (h : ∀ k, k < n → f k = g k) : tab n f = tab n g := by
  unfold tab
  exact List.map_congr_left fun k hk => h k (List.mem_range.1 hk)
theorem tab_of {n : Nat} {l : List Int} {f : Nat → Int} (hl : l.length = n) (h : ∀ k, k < n → l.getD k 0 = f k) : l = tab n f :=
  list_ext (by rw [hl, tab_len]) fun k hk => by rw [tab_get f (by omega), h k (by omega)]
theorem tab_self (l : List Int) : tab l.length (fun k => l.getD k 0) = l := (tab_of rfl fun _ _ => rfl).symm
theorem tab_rng {n : Nat} {f : Nat → Int} (h : ∀ k, k < n → 0 ≤ f k ∧ f k < p) : Rng p (tab n f) := Rng.of_get fun k hk => by
  rw [tab_len] at hk
  rw [tab_get f hk]; exact h k hk
/-- a cell's place -/
theorem at_div {c i k : Nat} (h : k < c) : (i * c + k) / c = i := by
  rw [Nat.add_comm, Nat.add_mul_div_right _ _ (by omega), Nat.div_eq_of_lt h, Nat.zero_add]
theorem at_mod {c i k : Nat} (h : k < c) : (i * c + k) % c = k := by
  rw [Nat.add_comm, Nat.add_mul_mod_self_right, Nat.mod_eq_of_lt h]
theorem at_lt {r c i k : Nat} (hi : i < r) (hk : k < c) : i * c + k < r * c := by
  have := Nat.mul_le_mul_right c (show i + 1 ≤ r by omega)
  rw [Nat.add_mul] at this
  omega
theorem lt_div {r c t : Nat} (h : t < r * c) : t / c < r := Nat.div_lt_of_lt_mul (by rw [Nat.mul_comm]; exact h)
theorem lt_mod {r c t : Nat} (h : t < r * c) : t % c < c := Nat.mod_lt _ (by
  rcases Nat.eq_zero_or_pos c with h0 | h0
  · rw [h0] at h; simp at h
  · exact h0)
/-- a matrix of r rows, c columns, by its cells -/
def grid (r c : Nat) (M : Nat → Nat → Int) : List Int := tab (r * c) fun t => M (t / c) (t % c)
theorem grid_len (r c : Nat) (M : Nat → Nat → Int) : (grid r c M).length = r * c := tab_len _ _
theorem grid_get {r c i k : Nat} (M : Nat → Nat → Int) (hi : i < r) (hk : k < c) : (grid r c M).getD (i * c + k) 0 = M i k := by
  unfold grid
  rw [tab_get _ (at_lt hi hk), at_div hk, at_mod hk]
theorem grid_congr {r c : Nat} {M N : Nat → Nat → Int} (h : ∀ i k, i < r → k < c → M i k = N i k) : grid r c M = grid r c N :=
  tab_congr fun _ ht => h _ _ (lt_div ht) (lt_mod ht)
theorem grid_of {r c : Nat} {l : List Int} {M : Nat → Nat → Int} (hl : l.length = r * c) (h : ∀ i k, i < r → k < c → l.getD (i * c + k) 0 = M i k) : l = grid r c M :=
  tab_of hl fun t ht => by
    have := h (t / c) (t % c) (lt_div ht) (lt_mod ht)
    rw [Nat.mul_comm, Nat.div_add_mod] at this
    exact this
theorem grid_self {r c : Nat} {l : List Int} (hl : l.length = r * c) : grid r c (fun i k => l.getD (i * c + k) 0) = l := (grid_of hl fun _ _ _ _ => rfl).symm
theorem grid_rng {r c : Nat} {M : Nat → Nat → Int} (h : ∀ i k, i < r → k < c → 0 ≤ M i k ∧ M i k < p) : Rng p (grid r c M) :=
  tab_rng fun _ ht => h _ _ (lt_div ht) (lt_mod ht)

/-! ### Sums of sums -/
theorem sm_comm (f : Nat → Nat → Int) : ∀ m n : Nat, sm m (fun i => sm n fun j => f i j) = sm n fun j => sm m fun i => f i j
  | 0, n => by
    exact (sm_zero fun _ _ => rfl).symm
  | m + 1, n => by
    show sm m (fun i => sm n fun j => f i j) + sm n (fun j => f m j) = _
    rw [sm_comm f m n, ← sm_add]
    rfl
theorem sm_single {n i : Nat} (g : Nat → Int) (h : i < n) : sm n (fun k => if k = i then g k else 0) = g i := by
  rw [sm_piece i 1 (by omega) (fun k hk => if_neg (by omega)) (fun k h1 h2 => if_neg (by omega))]
  simp [sm]
/-- what a row of numbers and another one make -/
def dv (p : Int) (n : Nat) (a x : Nat → Int) : Int := (sm n fun k => a k * x k) % p
theorem dv_congr {n : Nat} {a b x y : Nat → Int} (h : ∀ k, k < n → a k = b k) (h' : ∀ k, k < n → x k = y k) : dv p n a x = dv p n b y := by
  unfold dv; rw [sm_congr fun k hk => by rw [h k hk, h' k hk]]
theorem dv_comm (n : Nat) (a x : Nat → Int) : dv p n a x = dv p n x a := by
  unfold dv; rw [sm_congr fun k _ => Int.mul_comm (a k) (x k)]
theorem dv_range (hp : 2 ≤ p) (n : Nat) (a x : Nat → Int) : 0 ≤ dv p n a x ∧ dv p n a x < p := mod_range _ hp
theorem dv_zero (a x : Nat → Int) : dv p 0 a x = 0 := by simp [dv, sm]
theorem dv_succ (k : Nat) (a x : Nat → Int) : dv p (k + 1) a x = (dv p k a x + a k * x k % p) % p := by
  unfold dv
  rw [ma_l, ma_r]; rfl
theorem dv_assoc (n m : Nat) (a x : Nat → Int) (b : Nat → Nat → Int) : dv p n a (fun k => dv p m (b k) x) = dv p m (fun j => dv p n a fun k => b k j) x := by
  have e1 : dv p n a (fun k => dv p m (b k) x) = (sm n fun k => sm m fun j => a k * (b k j * x j)) % p := by
    unfold dv
    exact sm_mod fun k _ => by rw [mm_r, sm_mul]
  have e2 : dv p m (fun j => dv p n a fun k => b k j) x = (sm m fun j => sm n fun k => a k * (b k j * x j)) % p := by
    unfold dv
    refine sm_mod fun j _ => ?_
    rw [mm_l, ← sm_mul_r]
    rw [sm_congr fun k _ => Int.mul_assoc (a k) (b k j) (x j)]
  rw [e1, e2, sm_comm]
theorem dv_one {n i : Nat} (x : Nat → Int) (h : i < n) : dv p n (fun k => if k = i then 1 else 0) x = x i % p := by
  unfold dv
  rw [sm_congr (g := fun k => if k = i then x k else 0) fun k _ => by
    show (if k = i then 1 else 0) * x k = if k = i then x k else 0
    by_cases e : k = i
    · rw [if_pos e, if_pos e, Int.one_mul]
    · rw [if_neg e, if_neg e, Int.zero_mul], sm_single x h]
theorem dv_dotZ {xs ys : List Int} {n : Nat} (h : xs.length = n) (h' : ys.length = n) : dotZ xs ys % p = dv p n (fun k => xs.getD k 0) fun k => ys.getD k 0 := by
  rw [dotZ_sm xs ys (by omega), h]; rfl
end Go.Proofs.Ytjdbkbbhjiemdaa
