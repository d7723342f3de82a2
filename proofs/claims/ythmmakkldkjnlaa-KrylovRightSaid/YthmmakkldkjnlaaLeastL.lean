/- The rows of least as one matrix' cells; what Take makes of them. -/
import Derived.Test.YthmmakkldkjnlaaBun16
import Derived.Test.YthmmakkldkjnlaaBun14
namespace Go.Proofs.Ythmmakkldkjnlaa
variable {p : Int} {wd n : Nat} {L : Nat → List Int}

/-- the first rows' numbers, one behind the other -/
def cellsF (wd : Nat) (L : Nat → List Int) (t : Nat) : Int := (L (t / wd)).getD (t % wd) 0
theorem cells_next (hL : (L n).length = wd) : tab (n * wd) (cellsF wd L) ++ L n = tab ((n + 1) * wd) (cellsF wd L) := by
  refine list_ext (by rw [List.length_append, tab_len, tab_len, hL, Nat.succ_mul]) fun k hk => ?_
  rw [List.length_append, tab_len, hL] at hk
  rw [tab_get _ (by rw [Nat.succ_mul]; exact hk)]
  rcases Nat.lt_or_ge k (n * wd) with c | c
  · rw [← tab_get (n := n * wd) (cellsF wd L) c]
    simp [List.getD, List.getElem?_append, tab_len, c]
  · obtain ⟨j, rfl⟩ : ∃ j, k = n * wd + j := ⟨k - n * wd, by omega⟩
    have hj : j < wd := by omega
    unfold cellsF
    rw [at_div hj, at_mod hj]
    simp only [List.getD, List.getElem?_append, tab_len]
    rw [if_neg (by omega), show n * wd + j - n * wd = j by omega]
theorem cells_row {k : Nat} (hL : (L k).length = wd) (hk : k < n) : rowOf wd (tab (n * wd) (cellsF wd L)) k = L k := by
  refine list_ext (by rw [rowOf, tab_len, hL]) fun j hj => ?_
  rw [rowOf, tab_len] at hj
  rw [show (rowOf wd (tab (n * wd) (cellsF wd L)) k).getD j 0 = (tab (n * wd) (cellsF wd L)).getD (k * wd + j) 0 from tab_get _ hj, tab_get _ (at_lt hk hj)]
  unfold cellsF
  rw [at_div hj, at_mod hj]
theorem cells_rng (hp : 2 ≤ p) (hL : ∀ k, k < n → Rng p (L k)) : Rng p (tab (n * wd) (cellsF wd L)) := tab_rng fun _ ht => (hL _ (lt_div ht)).getD hp _
theorem cells_ok (hp : rightB p = true) (hn : 1 ≤ n ∧ n ≤ 64) (hw : 1 ≤ wd ∧ wd ≤ 64) (hL : ∀ k, k < n → Rng p (L k)) : MatOk p n wd (tab (n * wd) (cellsF wd L)) :=
  ⟨hp, cells_rng (rightB_true hp).1 hL, hn, hw, tab_len _ _⟩
theorem cells_take (hp : 2 ≤ p) (hf : Fld p) (hL : ∀ k, k < n → (L k).length = wd ∧ Rng p (L k)) : takeE p wd L n = some (takeL p n wd (tab (n * wd) (cellsF wd L))) := by
  rw [← takeL_some hp hf (cells_rng hp fun k hk => (hL k hk).2)]
  exact takeE_congr _ fun i hi => (cells_row (hL i hi).1 hi).symm
/-- before the own polynomial's degree all rows count -/
theorem cells_all (hp : 2 ≤ p) (hf : Fld p) (hL : ∀ k, k < n → (L k).length = wd ∧ Rng p (L k)) (hi : Ind p wd n fun k => lf (L k)) : (takeL p n wd (tab (n * wd) (cellsF wd L))).rows.length = n := by
  have ho := takeE_ok hp n hL (cells_take hp hf hL)
  rw [ho.lr]
  exact ho.all (hf.has hp) hi
/-- .. at it, not; and what is known of the state -/
theorem cells_last {r : Nat} (hp : 2 ≤ p) (hf : Fld p) (hL : ∀ k, k < r + 1 → (L k).length = wd ∧ Rng p (L k)) (hi : Ind p wd r fun k => lf (L k)) (hn : ¬ Ind p wd (r + 1) fun k => lf (L k)) :
    LastE p wd r L (takeL p (r + 1) wd (tab ((r + 1) * wd) (cellsF wd L))) ∧ (takeL p (r + 1) wd (tab ((r + 1) * wd) (cellsF wd L))).rows.length = r := by
  have h := cells_take hp hf hL
  have hl := LastE.of (hf.has hp) hL h hi hn
  exact ⟨hl, by rw [(takeE_ok hp _ hL h).lr, hl.lu]⟩
/-- what least answers where its way back is done -/
theorem least_out {A : Nat → RowF} {V : RowF → Prop} {g left out : List Int} {q r : Nat} {st : ElE} (hp : 2 ≤ p) (hK : Tells p q wd A V fun k => lf (L k)) (hg : IsOwn p q A V g) (hr : g.length = r + 1) (b : LBack p wd r L st 0 left out) : out = g :=
  hK.out hp hg b.pol (by rw [b.lo, hr]) (by rw [hr, Nat.add_sub_cancel]; exact b.top) (by rw [hr]; exact b.done)
end Go.Proofs.Ythmmakkldkjnlaa
