/- How many vectors a matrix makes of something: p as often as its rank (in plain Lean; nothing of a program). -/
import Derived.Test.YtdfkojbfgodegaaBun16
import Derived.Test.YtdfkojbfgodegaaCntL
namespace Go.Proofs.Ytdfkojbfgodegaa

theorem cntV_one {p : Nat} : ∀ {n : Nat} {t : List Int}, t.length = n → Dig p t → cntV p n (fun x => x == t) = 1
  | 0, t, hl, _ => by
    obtain rfl := List.eq_nil_of_length_eq_zero hl
    rfl
  | n + 1, [], hl, _ => by simp at hl
  | n + 1, a :: t, hl, hd => by
    have h' : t.length = n := by simpa using hl
    have ha := hd a (by simp)
    obtain ⟨i, rfl⟩ := Int.eq_ofNat_of_zero_le ha.1
    show (sumN p fun d => cntV p n fun x => ((d : Int) :: x) == ((i : Int) :: t)) = 1
    rw [sumN_congr (g := fun d => if d = i then 1 else 0) fun d _ => by
      by_cases e : d = i
      · subst e
        rw [if_pos rfl, ← cntV_one h' (fun y hy => hd y (by simp [hy]))]
        exact cntV_congr fun x _ _ => by simp
      · rw [if_neg e, ← cntV_none p n]
        exact cntV_congr fun x _ _ => by simp; omega]
    exact sumN_single 1 (by omega)
theorem sumN_if (c : Nat) (Q : Nat → Bool) : ∀ n, (sumN n fun k => if Q k then c else 0) = (sumN n fun k => if Q k then 1 else 0) * c
  | 0 => by simp [sumN]
  | n + 1 => by
    rw [sumN, sumN, sumN_if c Q n, Nat.add_mul]
    congr 1
    split <;> simp
/-- what a matrix makes of a vector -/
def imgL (p n m : Nat) (R : Nat → List Int) (x : List Int) : List Int := tab m fun i => appF n R (atV x) i % (p : Int)
theorem imgL_dig {p : Nat} (hp : 0 < p) (n m : Nat) (R : Nat → List Int) (x : List Int) : Dig p (imgL p n m R x) := fun y hy => by
  obtain ⟨j, hj, rfl⟩ := List.getElem_of_mem hy
  have hj' : j < m := by simpa [imgL, tab_len] using hj
  have : (imgL p n m R x)[j] = (imgL p n m R x).getD j 0 := by simp [List.getD, hj]
  rw [this, show (imgL p n m R x).getD j 0 = _ from tab_get _ hj']
  exact ⟨Int.emod_nonneg _ (by omega), Int.emod_lt_of_pos _ (by omega)⟩
/-- how many vectors have something that the matrix makes them of -/
theorem img_count {p n m : Nat} {R : Nat → List Int} {st : ElE} (hp : HasInv (p : Int)) (h : ElOk p n R m st) (solv : List Int → Bool)
    (hs : ∀ b, b.length = m → Dig p b → (solv b = true ↔ ∃ x : List Int, x.length = n ∧ Dig p x ∧ imgL p n m R x = b)) : cntTo p m solv (p ^ m) = p ^ st.U.length := by
  have hp0 : 0 < p := by have := hp.1; omega
  have hr := h.rank_le
  have e1 : p ^ n = sumN (p ^ m) fun N => cntV p n fun x => digV p N m == imgL p n m R x := by
    rw [← cntV_all p n]
    refine cntV_sum p n (p ^ m) (fun N x => digV p N m == imgL p n m R x) _ fun x hl hx => ?_
    rw [cntV_dig hp0 m (fun b => b == imgL p n m R x), cntV_one (t := imgL p n m R x) (tab_len _ _) (imgL_dig hp0 n m R x)]
    rfl
  have e2 : ∀ N, N < p ^ m → (cntV p n fun x => digV p N m == imgL p n m R x) = if solv (digV p N m) then p ^ (n - st.U.length) else 0 := fun N _ => by
    have hbl := digV_len p m N
    have hbd := digV_dig hp0 m N
    obtain ⟨b, eb⟩ : ∃ b, digV p N m = b := ⟨_, rfl⟩
    rw [eb] at hbl hbd ⊢
    cases hsb : solv b with
    | false =>
      rw [if_neg (by simp), ← cntV_none p n]
      refine cntV_congr fun x hl hx => ?_
      rw [beq_eq_false_iff_ne]
      intro e
      have := (hs b hbl hbd).2 ⟨x, hl, hx, e.symm⟩
      rw [hsb] at this; cases this
    | true =>
      obtain ⟨x0, hl0, hx0, e0⟩ := (hs b hbl hbd).1 hsb
      rw [if_pos rfl, ← ker_count hp h, ← cntV_move hp0 n (fun x => b == imgL p n m R x) x0 hl0]
      refine cntV_congr fun x hl hx => ?_
      unfold kerB
      rw [Bool.eq_iff_iff, beq_iff_eq, decide_eq_true_iff, ← e0]
      have key : ∀ i, i < m → ((imgL p n m R x0).getD i 0 = (imgL p n m R (movV p x x0)).getD i 0 ↔ appF n R (atV x) i % (p : Int) = 0) := fun i hi => by
        rw [show (imgL p n m R x0).getD i 0 = _ from tab_get _ hi, show (imgL p n m R (movV p x x0)).getD i 0 = _ from tab_get _ hi, app_mov hl hl0, Int.emod_eq_emod_iff_emod_sub_eq_zero]
        rw [show appF n R (atV x0) i - (appF n R (atV x) i + appF n R (atV x0) i) = -(appF n R (atV x) i) by omega]
        exact ⟨fun h => Int.emod_eq_zero_of_dvd (Int.dvd_neg.1 (Int.dvd_of_emod_eq_zero h)), fun h => Int.emod_eq_zero_of_dvd (Int.dvd_neg.2 (Int.dvd_of_emod_eq_zero h))⟩
      constructor
      · intro e i hi
        exact (key i hi).1 (by rw [e])
      · intro hz
        refine list_ext (by unfold imgL; rw [tab_len, tab_len]) fun i hi => ?_
        have hi' : i < m := by simpa [imgL, tab_len] using hi
        exact (key i hi').2 (hz i hi')
  have e3 : p ^ n = cntTo p m solv (p ^ m) * p ^ (n - st.U.length) := by
    rw [e1, sumN_congr e2, sumN_if]
    rfl
  have e4 : p ^ n = p ^ st.U.length * p ^ (n - st.U.length) := by rw [← Nat.pow_add]; congr 1; omega
  exact Nat.eq_of_mul_eq_mul_right (Nat.pow_pos hp0) (e3.symm.trans e4)
end Go.Proofs.Ytdfkojbfgodegaa
