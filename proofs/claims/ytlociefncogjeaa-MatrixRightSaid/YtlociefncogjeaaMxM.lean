/- Thin matrices: sums over a row's numbers (in plain Lean; nothing of a program). -/
import Derived.Test.YtlociefncogjeaaMx9
import Derived.Test.YtlociefncogjeaaMatS
import Derived.Test.YtlociefncogjeaaMatL
namespace Go.Proofs.Ytlociefncogjeaa
variable {p : Int}

theorem whF_none {bs cs vs : List Int} {i c : Nat} : ∀ N : Nat, (∀ k : Nat, k < N → bs.getD i 0 ≤ k → (k : Int) < bs.getD (i + 1) 0 → cs.getD k 0 ≠ c) → whF bs cs vs i c N = 0
  | 0, _ => rfl
  | N + 1, h => by
    rw [whF, if_neg fun e => h N (Nat.lt_succ_self _) e.1 e.2.1 e.2.2]
    exact whF_none N fun k hk => h k (by omega)
theorem SpOk.bg {m n : Nat} {bs cs vs : List Int} (ok : SpOk p m n bs cs vs) {i : Nat} (hi : i ≤ m) : bs.getD i 0 = (beg bs i : Nat) ∧ beg bs i ≤ cs.length := beg_of ok.b0 ok.bm ok.mono hi
theorem SpOk.ble {m n : Nat} {bs cs vs : List Int} (ok : SpOk p m n bs cs vs) {i : Nat} (hi : i < m) : beg bs i ≤ beg bs (i + 1) := beg_le ok.mono hi
theorem wh_step {m n : Nat} {bs cs vs : List Int} (ok : SpOk p m n bs cs vs) {i t : Nat} (hi : i < m) (ht : beg bs i + t < beg bs (i + 1)) (c : Nat) :
    whF bs cs vs i c (beg bs i + t + 1) = if cs.getD (beg bs i + t) 0 = c then vs.getD (beg bs i + t) 0 else whF bs cs vs i c (beg bs i + t) := by
  have e1 := (ok.bg (show i ≤ m by omega)).1
  have e2 := (ok.bg (show i + 1 ≤ m by omega)).1
  rw [whF]
  by_cases e : cs.getD (beg bs i + t) 0 = c
  · rw [if_pos e, if_pos ⟨by omega, by omega, e⟩]
  · rw [if_neg e, if_neg fun h => e h.2.2]
theorem wh_fresh {m n : Nat} {bs cs vs : List Int} (ok : SpOk p m n bs cs vs) {i t : Nat} (hi : i < m) (ht : beg bs i + t < beg bs (i + 1)) {c : Nat} (e : cs.getD (beg bs i + t) 0 = c) : whF bs cs vs i c (beg bs i + t) = 0 := by
  have e1 := (ok.bg (show i ≤ m by omega)).1
  have e2 := (ok.bg (show i + 1 ≤ m by omega)).1
  refine whF_none _ fun k hk h1 h2 h3 => ?_
  have := ok.once hi h1 h2 (k' := beg bs i + t) (by omega) (by omega) (by rw [h3, e])
  omega
theorem wh_start {m n : Nat} {bs cs vs : List Int} (ok : SpOk p m n bs cs vs) {i : Nat} (hi : i < m) (c : Nat) : whF bs cs vs i c (beg bs i) = 0 :=
  whF_before bs cs vs i c _ (by have e1 := (ok.bg (show i ≤ m by omega)).1; omega)
theorem wh_end {m n : Nat} {bs cs vs : List Int} (ok : SpOk p m n bs cs vs) {i : Nat} (hi : i < m) (c : Nat) : whF bs cs vs i c (beg bs (i + 1)) = whAt bs cs vs i c := by
  obtain ⟨e2, l2⟩ := ok.bg (show i + 1 ≤ m by omega)
  have := whF_behind bs cs vs i c (t := beg bs (i + 1)) (by omega) (cs.length - beg bs (i + 1))
  rw [Nat.add_sub_cancel' l2] at this
  exact this.symm
/-- the column of a number -/
theorem SpOk.col {m n : Nat} {bs cs vs : List Int} (ok : SpOk p m n bs cs vs) {i t : Nat} (hi : i < m) (ht : beg bs i + t < beg bs (i + 1)) : ∃ e : Nat, cs.getD (beg bs i + t) 0 = e ∧ e < n := by
  have e1 := (ok.bg (show i ≤ m by omega)).1
  have e2 := (ok.bg (show i + 1 ≤ m by omega)).1
  obtain ⟨_, c2, c3, _⟩ := ok.row i hi (beg bs i + t) (by omega) (by omega)
  exact ⟨(cs.getD (beg bs i + t) 0).toNat, by omega, by omega⟩
/-- a row's sum, over its columns or over its numbers -/
theorem row_sum {m n : Nat} {bs cs vs : List Int} (ok : SpOk p m n bs cs vs) {i : Nat} (hi : i < m) (y : Nat → Int) : ∀ t : Nat, beg bs i + t ≤ beg bs (i + 1) →
    (sm n fun c => whF bs cs vs i c (beg bs i + t) * y c) = sm t fun s => vs.getD (beg bs i + s) 0 * y (cs.getD (beg bs i + s) 0).toNat
  | 0, _ => by
    show _ = 0
    exact sm_zero fun c _ => by rw [Nat.add_zero, wh_start ok hi, Int.zero_mul]
  | t + 1, h => by
    obtain ⟨e, he, hen⟩ := ok.col hi (t := t) (by omega)
    show _ = (sm t fun s => vs.getD (beg bs i + s) 0 * y (cs.getD (beg bs i + s) 0).toNat) + vs.getD (beg bs i + t) 0 * y (cs.getD (beg bs i + t) 0).toNat
    rw [← row_sum ok hi y t (by omega), he, Int.toNat_natCast, ← sm_single (fun _ => vs.getD (beg bs i + t) 0 * y e) hen, ← sm_add]
    refine sm_congr fun c _ => ?_
    rw [← Nat.add_assoc, wh_step ok hi (by omega) c, he]
    by_cases ec : c = e
    · subst ec
      rw [if_pos rfl, if_pos rfl, wh_fresh ok hi (by omega) he, Int.zero_mul, Int.zero_add]
    · rw [if_neg (by omega), if_neg ec, Int.add_zero]
/-- a right thin matrix, whole -/
def wholeL (m n : Nat) (bs cs vs : List Int) : List Int := grid m n (whAt bs cs vs)
theorem wh_rng {m n : Nat} {bs cs vs : List Int} (hp : 2 ≤ p) (hv : Rng p vs) (i c : Nat) : ∀ N : Nat, 0 ≤ whF bs cs vs i c N ∧ whF bs cs vs i c N < p
  | 0 => ⟨Int.le_refl _, by show (0 : Int) < p; omega⟩
  | N + 1 => by
    rw [whF]
    split
    · exact hv.getD hp _
    · exact wh_rng (m := m) (n := n) hp hv i c N
/-- the row's dot product -/
theorem dot_row {m n : Nat} {bs cs vs ys met : List Int} (ok : SpOk p m n bs cs vs) {i : Nat} (hi : i < m) (hm : met.length = beg bs (i + 1) - beg bs i) (hmet : ∀ k, k < met.length → met.getD k 0 = ys.getD (cs.getD (beg bs i + k) 0).toNat 0) :
    dotZ (seg vs (beg bs i) (beg bs (i + 1))) met % p = dv p n (fun c => (wholeL m n bs cs vs).getD (i * n + c) 0) fun c => ys.getD c 0 := by
  have hble := ok.ble hi
  obtain ⟨_, l2⟩ := ok.bg (show i + 1 ≤ m by omega)
  have hl : (seg vs (beg bs i) (beg bs (i + 1))).length = met.length := by rw [seg_len (by rw [← ok.lc]; exact l2), hm]
  rw [dotZ_sm _ _ hl, hl, hm]
  unfold dv
  have e := row_sum ok hi (fun c => ys.getD c 0) (beg bs (i + 1) - beg bs i) (by omega)
  rw [Nat.add_sub_cancel' hble] at e
  rw [sm_congr (g := fun c => whF bs cs vs i c (beg bs (i + 1)) * ys.getD c 0) (n := n) fun c hc => by
    show (grid m n (whAt bs cs vs)).getD (i * n + c) 0 * ys.getD c 0 = _
    rw [grid_get _ hi hc, wh_end ok hi], e]
  congr 1
  refine sm_congr fun s hs => ?_
  rw [seg_get _ _ _ _ hs, hmet s (by rw [hm]; exact hs)]
end Go.Proofs.Ytlociefncogjeaa
