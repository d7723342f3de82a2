/- What the texts MatT, MatOk, Pm1, Pm2, Cm1, Clm show, in one text. -/
import Derived.Test.YtijpeepdedfhoaaGreatBun20
import Derived.Test.YtijpeepdedfhoaaGreatRef06d
import Derived.Test.YtijpeepdedfhoaaGreatBun04
import Derived.Test.YtijpeepdedfhoaaGreatBun12
import Derived.Test.YtijpeepdedfhoaaGreatBun08
import Derived.Test.YtijpeepdedfhoaaGreatBun16
import Derived.Test.YtijpeepdedfhoaaGreatBun07
import Derived.Maps.AppendAt
import Derived.Test.YtijpeepdedfhoaaGreatBun05
import Derived.Test.YtijpeepdedfhoaaGreatBun09
import Derived.Test.YtijpeepdedfhoaaGreatBun10
/- Thin matrices: each right whole matrix has one (in plain Lean; nothing of a program). -/
namespace Go.Proofs.YtijpeepdedfhoaaGreat
variable {p : Int}

/-- how many of the first t numbers aren't 0 -/
def nz (xs : List Int) (t : Nat) : Nat := (thV xs t).length
theorem nz_zero (xs : List Int) : nz xs 0 = 0 := rfl
theorem nz_succ (xs : List Int) (t : Nat) : nz xs (t + 1) = if xs.getD t 0 = 0 then nz xs t else nz xs t + 1 := by
  unfold nz; rw [thV]; split
  · rfl
  · rw [List.length_append]; rfl
theorem nz_le (xs : List Int) (s : Nat) : ∀ d, nz xs s ≤ nz xs (s + d)
  | 0 => Nat.le_refl _
  | d + 1 => by
    have := nz_le xs s d
    rw [← Nat.add_assoc, nz_succ]
    split <;> omega
theorem nz_mono (xs : List Int) {s t : Nat} (h : s ≤ t) : nz xs s ≤ nz xs t := by
  have := nz_le xs s (t - s)
  rwa [Nat.add_sub_cancel' h] at this
theorem nz_lt (xs : List Int) {s t : Nat} (h : s < t) (hx : xs.getD s 0 ≠ 0) : nz xs s < nz xs t := by
  have := nz_mono xs (show s + 1 ≤ t from h)
  rw [nz_succ, if_neg hx] at this
  omega
/-- the number behind the k-th that isn't 0 -/
theorem thV_at (xs : List Int) (n : Nat) : ∀ (t s : Nat), s < t → xs.getD s 0 ≠ 0 → (thV xs t).getD (nz xs s) 0 = xs.getD s 0 ∧ (thC xs n t).getD (nz xs s) 0 = ((s % n : Nat) : Int)
  | 0, s, h, _ => absurd h (Nat.not_lt_zero _)
  | t + 1, s, h, hx => by
    have hl := thC_len xs n t
    rw [thV, thC]
    by_cases e : s = t
    · subst e
      rw [if_neg hx, if_neg hx]
      constructor
      · simp [List.getD, nz]
      · unfold nz; rw [← hl]; simp [List.getD]
    · have ih := thV_at xs n t s (by omega) hx
      split
      · exact ih
      · have h1 : nz xs s < (thV xs t).length := nz_lt xs (show s < t by omega) hx
        constructor
        · rw [← ih.1]; simp [List.getD, List.getElem?_append_left h1]
        · rw [← ih.2]; simp [List.getD, List.getElem?_append_left (hl ▸ h1)]
theorem nz_find (xs : List Int) : ∀ (t k : Nat), k < nz xs t → ∃ s, s < t ∧ xs.getD s 0 ≠ 0 ∧ nz xs s = k
  | 0, k, h => absurd h (Nat.not_lt_zero _)
  | t + 1, k, h => by
    rw [nz_succ] at h
    by_cases e : xs.getD t 0 = 0
    · rw [if_pos e] at h
      obtain ⟨s, h1, h2, h3⟩ := nz_find xs t k h
      exact ⟨s, by omega, h2, h3⟩
    · rw [if_neg e] at h
      by_cases ek : k = nz xs t
      · exact ⟨t, by omega, e, ek.symm⟩
      · obtain ⟨s, h1, h2, h3⟩ := nz_find xs t k (by omega)
        exact ⟨s, by omega, h2, h3⟩
theorem thV_mem (xs : List Int) : ∀ (t : Nat), t ≤ xs.length → ∀ x ∈ thV xs t, x ∈ xs
  | 0, _, x, h => by cases h
  | t + 1, ht, x, h => by
    rw [thV] at h
    split at h
    · exact thV_mem xs t (by omega) x h
    · rcases List.mem_append.1 h with h | h
      · exact thV_mem xs t (by omega) x h
      · rw [List.mem_singleton] at h
        subst h
        have e : xs.getD t 0 = xs[t] := by simp [List.getD, List.getElem?_eq_getElem (show t < xs.length by omega)]
        rw [e]; exact List.getElem_mem _
theorem nz_len (xs : List Int) (t : Nat) : nz xs t ≤ t := by
  induction t with
  | zero => exact Nat.le_refl _
  | succ t ih => rw [nz_succ]; split <;> omega
/-- where the rows begin -/
def thB (xs : List Int) (m n : Nat) : List Int := tab (m + 1) fun i => (nz xs (i * n) : Int)
theorem thB_get (xs : List Int) {m n i : Nat} (h : i ≤ m) : (thB xs m n).getD i 0 = nz xs (i * n) := tab_get _ (by omega)
/-- position k of row i stands for a place of that row -/
theorem row_find (xs : List Int) {n i k : Nat} (h1 : nz xs (i * n) ≤ k) (h2 : k < nz xs ((i + 1) * n)) : ∃ c, c < n ∧ xs.getD (i * n + c) 0 ≠ 0 ∧ nz xs (i * n + c) = k := by
  obtain ⟨s, hs, hx, hk⟩ := nz_find xs _ k h2
  rw [Nat.succ_mul] at hs
  have hge : i * n ≤ s := by
    rcases Nat.lt_or_ge s (i * n) with h | h
    · have := nz_lt xs h hx; omega
    · exact h
  exact ⟨s - i * n, by omega, by rw [Nat.add_sub_cancel' hge]; exact hx, by rw [Nat.add_sub_cancel' hge]; exact hk⟩
theorem thin_ok {m n : Nat} {xs : List Int} (hm : 1 ≤ m ∧ m ≤ 64) (hn : 1 ≤ n ∧ n ≤ 64) (hl : xs.length = m * n) (hx : hasB p xs = true) : SpOk p m n (thB xs m n) (thC xs n (m * n)) (thV xs (m * n)) where
  m1 := hm
  n1 := hn
  lb := tab_len _ _
  lc := thC_len _ _ _
  hv := hasB_sub hx fun y hy => thV_mem xs _ (by omega) y hy
  b0 := by rw [thB_get xs (Nat.zero_le _), Nat.zero_mul]; rfl
  bm := by rw [thB_get xs (Nat.le_refl _), thC_len]; rfl
  mono := fun i hi => by
    rw [thB_get xs (by omega), thB_get xs (by omega)]
    have := nz_mono xs (show i * n ≤ (i + 1) * n from Nat.mul_le_mul_right _ (by omega))
    omega
  row := fun i hi k h1 h2 => by
    rw [thB_get xs (by omega)] at h1
    rw [thB_get xs (by omega)] at h2
    obtain ⟨c, hc, hc0, hk⟩ := row_find xs (by omega) (show k < nz xs ((i + 1) * n) by omega)
    obtain ⟨e1, e2⟩ := thV_at xs n (m * n) (i * n + c) (at_lt hi hc) hc0
    rw [hk] at e1 e2
    rw [at_mod hc] at e2
    refine ⟨by rw [e1]; exact hc0, by rw [e2]; omega, by rw [e2]; omega, fun hb => ?_⟩
    rw [thB_get xs (by omega)] at hb
    obtain ⟨c', hc', hc0', hk'⟩ := row_find xs (n := n) (i := i) (k := k - 1) (by omega) (by omega)
    obtain ⟨_, e2'⟩ := thV_at xs n (m * n) (i * n + c') (at_lt hi hc') hc0'
    rw [hk', at_mod hc'] at e2'
    rw [e2, e2']
    rcases Nat.lt_or_ge c' c with h | h
    · omega
    · have := nz_mono xs (show i * n + c ≤ i * n + c' by omega)
      omega
theorem thin_whole {m n : Nat} {xs : List Int} (hm : 1 ≤ m ∧ m ≤ 64) (hn : 1 ≤ n ∧ n ≤ 64) (hl : xs.length = m * n) (hx : hasB p xs = true) {i c : Nat} (hi : i < m) (hc : c < n) : xs.getD (i * n + c) 0 = whAt (thB xs m n) (thC xs n (m * n)) (thV xs (m * n)) i c := by
  have ok := thin_ok (p := p) hm hn hl hx
  by_cases e : xs.getD (i * n + c) 0 = 0
  · rw [e]
    refine (whF_miss (fun k h1 h2 h3 => ?_) _).symm
    rw [thB_get xs (by omega)] at h1
    rw [thB_get xs (by omega)] at h2
    obtain ⟨c', hc', hc0', hk'⟩ := row_find xs (n := n) (i := i) (k := k) (by omega) (by omega)
    obtain ⟨_, e2⟩ := thV_at xs n (m * n) (i * n + c') (at_lt hi hc') hc0'
    rw [hk', at_mod hc', h3] at e2
    obtain rfl : c = c' := by omega
    exact hc0' e
  · obtain ⟨e1, e2⟩ := thV_at xs n (m * n) (i * n + c) (at_lt hi hc) e
    rw [at_mod hc] at e2
    have h1 : (thB xs m n).getD i 0 ≤ (nz xs (i * n + c) : Int) := by
      rw [thB_get xs (by omega)]
      have := nz_mono xs (show i * n ≤ i * n + c by omega)
      omega
    have h2 : (nz xs (i * n + c) : Int) < (thB xs m n).getD (i + 1) 0 := by
      rw [thB_get xs (by omega)]
      have := nz_lt xs (show i * n + c < (i + 1) * n by rw [Nat.succ_mul]; omega) e
      omega
    have hN : nz xs (i * n + c) < (thC xs n (m * n)).length := by
      rw [thC_len]; exact nz_lt xs (at_lt hi hc) e
    exact (e1.symm.trans (whF_hit h1 h2 e2 (fun k h3 h4 h5 => ok.once hi h3 h4 h1 h2 (by rw [h5, e2])) _ hN).symm)
/-- each right thin matrix is the thin form of its whole one -/
theorem thin_eq {m n : Nat} {bs cs vs xs : List Int} (ok : SpOk p m n bs cs vs) (hx : ∀ i c, i < m → c < n → xs.getD (i * n + c) 0 = whAt bs cs vs i c) : bs = thB xs m n ∧ cs = thC xs n (m * n) ∧ vs = thV xs (m * n) := by
  have h := thin_unique ok hx
  obtain ⟨_, h2, h3⟩ := h m (Nat.le_refl _)
  rw [ok.bm] at h2 h3
  refine ⟨?_, ?_, ?_⟩
  · refine list_ext (by rw [ok.lb]; exact (tab_len _ _).symm) fun k hk => ?_
    rw [ok.lb] at hk
    rw [thB_get xs (by omega)]
    exact (h k (by omega)).1
  · rw [h3]; simp
  · rw [h2, Int.toNat_natCast, ok.lc]; simp
/-- and the whole one is right -/
theorem whole_eq {m n : Nat} {xs : List Int} (hm : 1 ≤ m ∧ m ≤ 64) (hn : 1 ≤ n ∧ n ≤ 64) (hl : xs.length = m * n) (hx : hasB p xs = true) : grid m n (whAt (thB xs m n) (thC xs n (m * n)) (thV xs (m * n))) = xs := by
  refine list_ext (by rw [hl]; exact tab_len _ _) fun k hk => ?_
  have hk' : k < m * n := by rw [show (grid m n (whAt (thB xs m n) (thC xs n (m * n)) (thV xs (m * n)))).length = m * n from tab_len _ _] at hk; exact hk
  have h0 : 0 < n := by omega
  have hd : k / n < m := (Nat.div_lt_iff_lt_mul h0).2 hk'
  have hr : k % n < n := Nat.mod_lt _ h0
  have e := thin_whole (p := p) hm hn hl hx hd hr
  rw [Nat.div_add_mod' k n] at e
  rw [e]
  exact tab_get _ hk'
end Go.Proofs.YtijpeepdedfhoaaGreat
/- What is right stays right: products, thin forms (in plain Lean; nothing of a program). -/
namespace Go.Proofs.YtijpeepdedfhoaaGreat
variable {p : Int}
theorem MatOk.mul {m n q : Nat} {xs ys : List Int} (h : MatOk p m n xs) (k : MatOk p n q ys) : MatOk p m q (mulL p m n q xs ys) :=
  ⟨h.hp, mulL_rng (rightB_true h.hp).1 _ _ _ _ _, h.hm, k.hn, mulL_len _ _ _ _ _⟩
theorem spOk_of {m n : Nat} {xs : List Int} (h : MatOk p m n xs) : SpOk p m n (thB xs m n) (thC xs n (m * n)) (thV xs (m * n)) := thin_ok h.hm h.hn h.hl (h.hx.has h.hp)
theorem whole_of {m n : Nat} {xs : List Int} (h : MatOk p m n xs) : wholeL m n (thB xs m n) (thC xs n (m * n)) (thV xs (m * n)) = xs := whole_eq h.hm h.hn h.hl (h.hx.has h.hp)
theorem thV_rng {m n : Nat} {xs : List Int} (h : MatOk p m n xs) : Rng p (thV xs (m * n)) := fun x hx => h.hx x (thV_mem xs _ (by rw [h.hl]; exact Nat.le_refl _) x hx)
theorem MatOk.oneR {m n : Nat} {xs : List Int} (h : MatOk p m n xs) : MatOk p m m (oneL m) := ⟨h.hp, oneL_rng (rightB_true h.hp).1 m, h.hm, h.hm, oneL_len m⟩
theorem MatOk.oneC {m n : Nat} {xs : List Int} (h : MatOk p m n xs) : MatOk p n n (oneL n) := ⟨h.hp, oneL_rng (rightB_true h.hp).1 n, h.hn, h.hn, oneL_len n⟩
theorem rng_of {xs : List Int} (h : U64s xs) (k : hasB p xs = true) : Rng p xs := fun x hx => ⟨(h x hx).1, (hasB_true k).2 x hx⟩
end Go.Proofs.YtijpeepdedfhoaaGreat
/- Package perm: sides, orders that are right, One. -/
namespace Go.Proofs.YtijpeepdedfhoaaGreat
open Go.RowKit Go.Maps

theorem pmSide (n : Int) (w : World) : Calls Tryz.prog 122 #[.int .i64 n] w fun e w' => e = .returned (.bool (sideB n)) ∧ w = w' := by
  by_cases h : 1 ≤ n
  · by_cases h' : n ≤ 64
    all_goals
      go_enter Tryz.func122, Tryz.ntmps122
      go_wp2
      go_ret
      exact ⟨ret_bool (by simp [sideB]; omega), rfl⟩
  · go_enter Tryz.func122, Tryz.ntmps122
    go_wp2
    go_ret
    exact ⟨ret_bool (by simp [sideB]; omega), rfl⟩

/-- rows without repetition, of numbers that are all below their number: an order -/
theorem Ord.of_nodup {n : Nat} {p : List Int} (hl : p.length = n) (hr : ∀ j, j < n → 0 ≤ p.getD j 0 ∧ p.getD j 0 < n) (hn : p.Nodup) : Ord n p := by
  have hp := nodup_sub (r := upL n) hn (fun x hx => by
    obtain ⟨j, hj, rfl⟩ := List.getElem_of_mem hx
    have := hr j (by omega)
    rw [List.getD, List.getElem?_eq_getElem hj] at this
    exact upL_mem.2 this) (by rw [upL_len]; omega)
  exact Ord.of_perm hp.symm
theorem mem_take_getD {p : List Int} {k j : Nat} (hj : j < k) (hk : k ≤ p.length) : p.getD j 0 ∈ p.take k := by
  have h : j < (p.take k).length := by rw [List.length_take]; omega
  have e : p.getD j 0 = (p.take k)[j] := by simp [List.getD, show j < p.length by omega]
  rw [e]; exact List.getElem_mem h
theorem nodup_take_succ {p : List Int} {k : Nat} (h : k < p.length) (hn : (p.take k).Nodup) (hx : p.getD k 0 ∉ p.take k) : (p.take (k + 1)).Nodup := by
  rw [take_snoc_getD h, List.nodup_append]
  exact ⟨hn, by simp, fun a ha b hb e => by
    have : b = p.getD k 0 := by simpa using hb
    subst e; subst this; exact hx ha⟩

set_option maxRecDepth 100000 in
set_option maxHeartbeats 1000000 in
theorem qmRight (v : Value) (p : List Int) (w : World) (hv : Ints .i64 w v p) : Calls Tryz.prog 119 #[v] w (Ret (.bool (ordB p)) w) := by
  have CS := hid fun n W => pmSide n W
  obtain ⟨O, hO⟩ : ∃ O, ordB p = O := ⟨_, rfl⟩
  rw [hO]
  have HO := hid hO
  obtain ⟨a, cap, rfl, k1, k2, k3⟩ := hv
  have K3 := hid k3
  obtain ⟨n, en⟩ : ∃ n, p.length = n := ⟨_, rfl⟩
  have En := hid en
  rw [en] at k1 K3 ⊢
  clear k3 hO en
  by_cases hn : 1 ≤ (n : Int) ∧ (n : Int) ≤ 64
  · have s : sideB n = true := decide_eq_true hn
    have hn2 : 1 ≤ n ∧ n ≤ 64 := by omega
    obtain ⟨b, off, rfl, hb, hc⟩ := K3.out (by omega)
    have Hc := hid hc
    clear hc hn
    go_enter Tryz.func119, Tryz.ntmps119
    go_wp2_with (go_at_call 122; refine (CS.out _ _).mono ?_; rintro _ _ ⟨rfl, rfl⟩)
    go_loopw [12] (fun iv wr => ∃ (k : Nat) (cs : Array Value), iv = .int .i64 k ∧ k ≤ n ∧ Hid (Blk wr w.heap.size 148 cs) ∧ Hid (∀ y, y < 64 → cs[y]? = some (.bool (decide ((y : Int) ∈ p.take k)))) ∧ Hid (∀ j, j < k → 0 ≤ p.getD j 0 ∧ p.getD j 0 < n) ∧ Hid ((p.take k).Nodup) ∧ Ext w wr) (fun iv _ => n - (intOf iv).toNat)
    case atStart => exact ⟨0, _, rfl, Nat.zero_le _, hid (Blk.new _ _ _), hid (fun y hy => by show (Array.replicate 64 (Value.bool false))[y]? = _; simp [hy]), hid (fun j hj => absurd hj (Nat.not_lt_zero _)), hid (by simp), (Ext.refl _).alloc _⟩
    case round =>
      obtain ⟨k, cs, rfl, hk, hbl, hcs, hr, hnd, hxw⟩ := hrel
      by_cases hlt : k < n
      · have g1 := (hxw.cells _ _ hb).trans (Hc.out k hlt)
        obtain ⟨x, ex⟩ : ∃ x, p.getD k 0 = x := ⟨_, rfl⟩
        rw [ex] at g1
        have Ex := hid ex
        have hbad := hid (fun (h : ¬ (0 ≤ x ∧ x < n) ∨ x ∈ p.take k) => (show O = false by
          rw [← HO.out, Bool.eq_false_iff]
          intro hb
          obtain ⟨_, _, ho⟩ := ordB_iff.1 hb
          rw [En.out] at ho
          have hg := ho.get (k := k) hlt
          rw [ex] at hg
          rcases h with h | h
          · exact h hg
          · obtain ⟨j, hj, e⟩ := List.getElem_of_mem h
            rw [List.length_take] at hj
            have := ho.inj (i := j) (k := k) (by omega) hlt (by
              rw [ex, ← e]; simp [List.getD, show j < p.length by omega])
            omega))
        clear ex
        by_cases c1 : x < 0
        · have hf := hid (hbad.out (.inl (by omega)))
          go_wp2_with fail
          go_ret
          exact ⟨ret_bool hf.out.symm, hxw⟩
        by_cases c2 : (n : Int) ≤ x
        · have hf := hid (hbad.out (.inl (by omega)))
          go_wp2_with fail
          go_ret
          exact ⟨ret_bool hf.out.symm, hxw⟩
        obtain ⟨t, rfl⟩ := Int.eq_ofNat_of_zero_le (show 0 ≤ x by omega)
        have ht : t < n := by omega
        have gX := (hbl.out.cell t).trans (hcs.out t (by omega))
        have gF := hbl.out.frozen t
        have hsz : t < cs.size := (Array.getElem?_eq_some_iff.1 (hcs.out t (by omega))).1
        obtain ⟨B, eB⟩ : ∃ B, decide ((t : Int) ∈ p.take k) = B := ⟨_, rfl⟩
        rw [eB] at gX
        have EB := hid eB
        clear eB
        cases B with
        | true =>
          have hf := hid (hbad.out (.inr (of_decide_eq_true EB.out)))
          go_wp2_with fail
          go_ret
          exact ⟨ret_bool hf.out.symm, hxw⟩
        | false =>
          have hnew := hid (of_decide_eq_false EB.out)
          go_wp2_with fail
          go_roundw
          case rel =>
            have hkl : k < p.length := by have := En.out; omega
            refine ⟨k + 1, cs.setIfInBounds t (.bool true), by go_num, by omega, hid (hbl.out.set_ t (.bool true)), hid (fun y hy => ?_), hid (fun j hj => ?_), hid ?_, hxw.setCell (p := ⟨w.heap.size, t, none⟩) (Nat.le_refl _) _⟩
            · rw [Array.getElem?_setIfInBounds, take_snoc_getD hkl, Ex.out]
              by_cases e : t = y
              · subst e
                rw [if_pos rfl, if_pos hsz]
                congr 2
                symm
                exact decide_eq_true (by simp)
              · rw [if_neg e, hcs.out y hy]
                congr 2
                rw [decide_eq_decide]
                simp only [List.mem_append, List.mem_singleton]
                exact ⟨.inl, fun h => h.resolve_right (by omega)⟩
            · by_cases e : j = k
              · rw [e, Ex.out]; omega
              · exact hr.out j (by omega)
            · exact nodup_take_succ hkl hnd.out (by rw [Ex.out]; exact hnew.out)
          case measure => simp [intOf]; omega
      · obtain rfl : n = k := by omega
        have hf := hid (show O = true by
          rw [← HO.out]
          have hl := En.out
          have hnd2 := hnd.out
          rw [List.take_of_length_le (by omega)] at hnd2
          exact (Ord.of_nodup hl hr.out hnd2).b (by omega) hn2.2)
        go_wp2_with fail
        go_ret
        exact ⟨ret_bool hf.out.symm, hxw⟩
  · have s : sideB n = false := decide_eq_false hn
    have hf : O = false := by
      rw [← HO.out, Bool.eq_false_iff]
      intro hb
      obtain ⟨h1, h2, _⟩ := ordB_iff.1 hb
      rw [En.out] at h1 h2
      exact hn (by omega)
    subst hf
    clear hn K3
    go_enter Tryz.func119, Tryz.ntmps119
    go_wp2_with (go_at_call 122; refine (CS.out _ _).mono ?_; rintro _ _ ⟨rfl, rfl⟩)
    go_ret
    exact ⟨rfl, Ext.refl _⟩

/-- a block whose first so many cells are numbers -/
theorem Blk.ints {w : World} {g n : Nat} {t : TypeId} {cs : Array Value} {k : IntKind} {xs : List Int} (h : Blk w g t cs) (hl : xs.length = n) (hn : n ≤ 9223372036854775807) (hc : ∀ j, j < n → cs[j]? = some (.int k (xs.getD j 0))) : Ints k w (.slice (some ⟨g, 0, none⟩) n n) xs := by
  subst hl
  exact Ints.mk (Nat.le_refl _) hn h.lt fun j hj => by rw [Nat.zero_add, h.cell j]; exact hc j hj

end Go.Proofs.YtijpeepdedfhoaaGreat
/- Package perm: an order done to things of any kind; Then, Do. -/
namespace Go.Proofs.YtijpeepdedfhoaaGreat
open Go.RowKit Go.Maps

/-- in the world w the slice u reads as the values us -/
def Vals (w : World) (u : Value) (us : List Value) : Prop :=
  ∃ (a : Option Addr) (cap : Nat), u = .slice a us.length cap ∧ us.length ≤ cap ∧ cap ≤ 9223372036854775807 ∧
    (0 < us.length → ∃ b off, a = some ⟨b, off, none⟩ ∧ b < w.heap.size ∧ ∀ j x, us[j]? = some x → w.cell? ⟨b, off + j, none⟩ = some x)
theorem Vals.ext {w w' : World} {u : Value} {us : List Value} (h : Vals w u us) (he : Ext w w') : Vals w' u us := by
  obtain ⟨a, cap, h1, h2, h3, h4⟩ := h
  refine ⟨a, cap, h1, h2, h3, fun hp => ?_⟩
  obtain ⟨b, off, ha, hb, hc⟩ := h4 hp
  exact ⟨b, off, ha, Nat.lt_of_lt_of_le hb he.size, fun j x hj => (he.cells _ _ hb).trans (hc j x hj)⟩
theorem getD_some {α : Type} {l : List α} {j : Nat} {x : α} (d : α) (h : l[j]? = some x) : l.getD j d = x := by rw [List.getD, h]; rfl
theorem Ints.vals {k : IntKind} {w : World} {v : Value} {xs : List Int} (h : Ints k w v xs) : Vals w v (xs.map (Value.int k)) := by
  obtain ⟨a, cap, h1, h2, h3, h4⟩ := h
  refine ⟨a, cap, by rw [h1, List.length_map], by rw [List.length_map]; exact h2, h3, fun hp => ?_⟩
  rw [List.length_map] at hp
  obtain ⟨b, off, ha, hb, hc⟩ := h4 hp
  refine ⟨b, off, ha, hb, fun j x hj => ?_⟩
  rw [List.getElem?_map] at hj
  obtain ⟨y, hy, rfl⟩ := Option.map_eq_some_iff.1 hj
  rw [hc j (List.getElem?_eq_some_iff.1 hy).1, getD_some 0 hy]
theorem Vals.ints {k : IntKind} {w : World} {v : Value} {xs : List Int} (h : Vals w v (xs.map (Value.int k))) : Ints k w v xs := by
  obtain ⟨a, cap, h1, h2, h3, h4⟩ := h
  rw [List.length_map] at h1 h2 h4
  refine ⟨a, cap, h1, h2, h3, fun hp => ?_⟩
  obtain ⟨b, off, ha, hb, hc⟩ := h4 hp
  refine ⟨b, off, ha, hb, fun j hj => hc j _ ?_⟩
  simp [List.getD, hj]
/-- what an order does to things of any kind -/
def doG {α : Type} (d : α) (p : List Int) (x : List α) : List α := p.map fun k => x.getD k.toNat d
theorem doG_len {α : Type} (d : α) (p : List Int) (x : List α) : (doG d p x).length = p.length := by simp [doG]
theorem doG_get {α : Type} {d : α} {p : List Int} {x : List α} {k : Nat} (hk : k < p.length) : (doG d p x)[k]? = some (x.getD (p.getD k 0).toNat d) := by
  simp [doG, List.getD, hk]
/-- a block whose first so many cells are known -/
theorem Blk.vals {w : World} {g n : Nat} {t : TypeId} {cs : Array Value} {us : List Value} (h : Blk w g t cs) (hl : us.length = n) (hn : n ≤ 9223372036854775807) (hc : ∀ j, j < n → cs[j]? = us[j]?) : Vals w (.slice (some ⟨g, 0, none⟩) n n) us := by
  subst hl
  refine ⟨_, _, rfl, Nat.le_refl _, hn, fun _ => ⟨g, 0, rfl, h.lt, fun j x hj => ?_⟩⟩
  rw [Nat.zero_add, h.cell j, hc j (List.getElem?_eq_some_iff.1 hj).1]; exact hj
/-- things that a call answers, or that something isn't right -/
def RetVals (ok : Bool) (us : List Value) (w : World) (e : Ending) (w' : World) : Prop :=
  ∃ (v : Value) (l' : List Value) (ee : Int), e = .returned (.tuple #[v, .int .i64 ee]) ∧ Vals w' v l' ∧ ee = (if ok = true then 0 else 1) ∧ l' = (if ok = true then us else []) ∧ Ext w w'
theorem Vals.nil {w : World} : Vals w (.slice none 0 0) [] := ⟨none, 0, rfl, by simp, by omega, by simp⟩
theorem make_rows {P : Program} (t e : TypeId) (bytes : Nat) (hb : bytes ≤ 24) (ht : P.underlying t = some (.slice e)) (hi : (P.info? e).map (fun i => (i.zero, i.size, i.bytes)) = some (some (.slice none 0 0), 1, bytes))
    (n c : Nat) (hnc : n ≤ c) (hc : c ≤ 1000000) (w : World) :
    (Instr.makeSlice t (.int .i64 n) (.int .i64 c)).run P w = .ok (.slice (some ⟨w.heap.size, 0, none⟩) n c) (w.alloc (.cells (madeCells #[Value.slice none 0 0] c) e)) := by
  obtain ⟨i, h1, h2, h3, h4⟩ := info_parts hi
  have hbc : i.bytes * c ≤ 24 * c := Nat.mul_le_mul_right _ (by omega)
  have hbi : (i.bytes : Int) * (c : Int) ≤ 281474976710656 := by rw [← Int.natCast_mul]; omega
  have := run_make (P := P) w t e i _ ht h1 h2 .i64 .i64 n c (by omega) (by omega) hbi (by omega)
  rw [this, h3]
  simp [Value.cells]
/-- a slice, as a value -/
def slV (x : Option Addr × Nat × Nat) : Value := .slice x.1 x.2.1 x.2.2

theorem thenL_doG (p q : List Int) : doG 0 q p = thenL p q := rfl
theorem doL_doG (p x : List Int) : doG 0 p x = doL p x := rfl
end Go.Proofs.YtijpeepdedfhoaaGreat
/- Package cup: what a row is lessened by; the first number that isn't 0; rows of the call's own, apart from one another. -/
namespace Go.Proofs.YtijpeepdedfhoaaGreat
open Go.RowKit Go.Maps

theorem Ext.grownBy {w w' : World} (h : Ext w w') (row : Option Nat) : w.grownBy w' row := ⟨h.os, h.tape, h.output, h.size, fun k hk _ => h.block k hk⟩
theorem Ints.grown {k : IntKind} {w w' : World} {v : Value} {xs : List Int} {row : Option Nat} (h : Ints k w v xs) (hg : w.grownBy w' row) (hne : ∀ b, v.ownBlock = some b → row ≠ some b) : Ints k w' v xs := by
  obtain ⟨a, cap, rfl, h1, h2, h3⟩ := h
  refine ⟨a, cap, rfl, h1, h2, fun hp => ?_⟩
  obtain ⟨b, off, rfl, hb, hc⟩ := h3 hp
  refine ⟨b, off, rfl, Nat.lt_of_lt_of_le hb hg.size, fun j hj => ?_⟩
  rw [World.cell?_of_block (hg.block b hb fun e => hne b rfl e.symm)]
  exact hc j hj
/-- two slices that don't lie in one block -/
def Ap (v u : Value) : Prop := v.ownBlock = none ∨ v.ownBlock ≠ u.ownBlock
theorem Ap.symm {v u : Value} (h : Ap v u) : Ap u v := by
  rcases h with h | h
  · rcases hu : u.ownBlock with _ | k
    · exact .inl hu
    · exact .inr (by rw [h, hu]; simp)
  · exact .inr fun e => h e.symm
/-- an elder row and a younger one lie apart -/
theorem Ap.old {w w' : World} {b b' : Nat} {e e' : TypeId} {s s' n n' : Nat} {v u : Value} {xs ys : List Value} (h : w.ownsRow b e s v n xs) (h' : w'.ownsRow b' e' s' u n' ys) (hb : w.heap.size ≤ b') : Ap v u := by
  rcases hv : v.ownBlock with _ | k
  · exact .inl hv
  · refine .inr fun e => ?_
    rw [hv] at e
    have h1 := (h.lt k hv).2
    have h2 := (h'.lt k e.symm).1
    omega
/-- a row that has grown lies apart from what it lay apart from -/
theorem Ap.grown {w : World} {b : Nat} {e : TypeId} {s n : Nat} {v v' u : Value} {ys : List Value} (h : Ap u v) (hu : w.ownsRow b e s u n ys) (hat : v'.ownBlock = v.ownBlock ∨ v'.ownBlock = some w.heap.size) : Ap u v' := by
  rcases h with h | h
  · exact .inl h
  · rcases hv : u.ownBlock with _ | k
    · exact .inl hv
    · refine .inr fun e => ?_
      rw [hv] at e h
      rcases hat with hat | hat
      · rw [hat] at e; exact h e
      · rw [hat] at e
        have := (hu.lt k hv).2
        injection e with e
        omega
theorem own_put {w : World} {base : Nat} {e ty : TypeId} {g n : Nat} {v : Value} {xs : List Value} {cs : Array Value} (h : w.ownsRow base e 1 v n xs) (hB : Blk w g ty cs) (hty : e ≠ ty) (i : Nat) (u : Value) : (w.setCell ⟨g, i, none⟩ u).ownsRow base e 1 v n xs :=
  h.kept (setCell_grown _ _ _) (ownsRow_blk h hB hty)
theorem map_set_int (l : List Int) (j : Nat) (x : Int) : (l.map (Value.int .u64)).set j (.int .u64 x) = (l.set j x).map (Value.int .u64) := by rw [List.map_set]

set_option maxRecDepth 100000 in
set_option maxHeartbeats 1000000 in
theorem cmLessen (p x : Int) (n base g cap : Nat) (xs us : List Int) (u : Value) (w : World) (hp : rightB p = true) (hx : 0 ≤ x ∧ x < p) (hn : 1 ≤ n) (hn2 : n ≤ 64)
    (hown : w.ownsRow base 22 1 (.slice (some ⟨g, 0, none⟩) n cap) n (xs.map (Value.int .u64))) (hxs : Rng p xs) (hu : Ints .u64 w u us) (hul : us.length = n) (hus : Rng p us) (hne : ∀ k, u.ownBlock = some k → g ≠ k) :
    Calls Tryz.prog 117 #[.int .u64 p, .slice (some ⟨g, 0, none⟩) n cap, .int .u64 x, u] w fun e w' => e = .returned (.tuple #[]) ∧
      w'.ownsRow base 22 1 (.slice (some ⟨g, 0, none⟩) n cap) n ((tab n fun j => (xs.getD j 0 - x * us.getD j 0 % p) % p).map (Value.int .u64)) ∧ w.grownBy w' (some g) := by
  have hp2 := rightB_true hp
  have HP := hid hp
  have Hxs := hid hxs; have Hus := hid hus
  have hxl : xs.length = n := by have := hown.1; simpa using this
  obtain ⟨F, hF⟩ : ∃ F : Nat → Int, (fun j => (xs.getD j 0 - x * us.getD j 0 % p) % p) = F := ⟨_, rfl⟩
  have HF := hid (fun j => (congrFun hF j : (xs.getD j 0 - x * us.getD j 0 % p) % p = F j))
  rw [hF]
  have Hown := hid hown; have Hxl := hid hxl
  obtain ⟨a, cu, rfl, k1, k2, k3⟩ := hu
  rw [hul] at k1 k3 ⊢
  obtain ⟨b, off, rfl, hb, hc⟩ := k3 (by omega)
  have Hc := hid hc
  have hgb : g ≠ b := hne b rfl
  clear hF k3 hc hown hxl hne hul hxs hus hp
  go_enter Tryz.func117, Tryz.ntmps117
  go_wp2_with fail
  go_loopw [14] (fun iv wr => ∃ (j : Nat) (l : List Int), iv = .int .i64 j ∧ j ≤ n ∧ Hid (l.length = n) ∧ Hid (wr.ownsRow base 22 1 (.slice (some ⟨g, 0, none⟩) n cap) n (l.map (Value.int .u64))) ∧ Hid (∀ t, t < n → l.getD t 0 = if t < j then F t else xs.getD t 0) ∧ Hid (w.grownBy wr (some g))) (fun iv _ => n - (intOf iv).toNat)
  case atStart => exact ⟨0, xs, rfl, Nat.zero_le _, Hxl, Hown, hid (fun t ht => by rw [if_neg (by omega)]), hid ((Ext.refl w).grownBy _)⟩
  case round =>
    obtain ⟨j, l, rfl, hj, hl, ho, hget, hgr⟩ := hrel
    by_cases hlt : j < n
    · have gu := (World.cell?_of_block (a := ⟨b, off + j, none⟩) (hgr.out.block b hb (fun e => hgb (by injection e with e; exact e.symm)))).trans (Hc.out j hlt)
      have hlj := hget.out j hlt
      rw [if_neg (by omega)] at hlj
      have rx := Hxs.out.getD hp2.1 j
      have ru := Hus.out.getD hp2.1 j
      have hFj := HF.out j
      obtain ⟨y, ey⟩ : ∃ y, us.getD j 0 = y := ⟨_, rfl⟩
      obtain ⟨z, ez⟩ : ∃ z, xs.getD j 0 = z := ⟨_, rfl⟩
      rw [ey] at gu ru hFj; rw [ez] at hlj rx hFj
      obtain ⟨q, eq, q0, q1⟩ := name_mod (p := p) (x * y) hp2.1
      rw [eq] at hFj
      have hFr := mod_range (z - q) hp2.1
      rw [hFj] at hFr
      obtain ⟨t, et⟩ : ∃ t, F j = t := ⟨_, rfl⟩
      rw [et] at hFj hFr
      have Eq := hid eq; have Et := hid et; have HFj := hid hFj
      have gv := hid fun (W : World) (hW : Ext wr W) => (show W.cell? ⟨g, j, none⟩ = some (.int .u64 z) by
        rw [(ownsRow_ext ho.out hW).cellAt j (by omega), List.getElem?_map, List.getElem?_eq_getElem (show j < l.length by rw [hl.out]; exact hlt)]
        simp only [List.getD, List.getElem?_eq_getElem (show j < l.length by rw [hl.out]; exact hlt), Option.getD_some] at hlj
        rw [hlj]; rfl)
      have fv := hid fun (W : World) (hW : Ext wr W) => (ownsRow_ext ho.out hW).frozenAt j
      have hst := hid fun (W : World) (hW : Ext wr W) => (ownsRow_ext ho.out hW).stored j (.int .u64 t)
      clear ey ez eq et hFj hlj
      go_wp2_with (first
        | (go_at_call 82; refine (mul_as p x y q _ HP.out hx.1 hx.2 ru.1 ru.2 Eq.out).mono ?_; rintro _ w1 ⟨rfl, x1⟩; have g1 := gv.out w1 x1)
        | (go_at_call 89; refine (sub_as p z q t _ HP.out rx.1 rx.2 q0 q1 HFj.out).mono ?_; rintro _ w2 ⟨rfl, x2⟩; have x3 := x1.trans x2; have f2 := fv.out w2 x3; have g2 := gv.out w2 x3))
      have hs := hid (hst.out w2 x3)
      go_roundw
      case rel =>
        refine ⟨j + 1, l.set j t, by go_num, by omega, hid (by rw [List.length_set]; exact hl.out), hid (by rw [← map_set_int]; exact hs.out.1), hid (fun i hi => ?_), hid ((hgr.out.trans (x3.grownBy _)).trans hs.out.2)⟩
        rw [set_get l j i t (by rw [hl.out]; exact hlt)]
        by_cases e : j = i
        · subst e
          rw [if_pos rfl, if_pos (by omega), Et.out]
        · rw [if_neg e, hget.out i hi]
          by_cases e2 : i < j
          · rw [if_pos e2, if_pos (by omega)]
          · rw [if_neg e2, if_neg (by omega)]
      case measure => simp [intOf]; omega
    · obtain rfl : n = j := by omega
      have e : l = tab n F := tab_of hl.out fun t ht => by rw [hget.out t ht, if_pos ht]
      go_wp2_with fail
      go_end0
      exact ⟨rfl, by rw [← e]; exact ho.out, hgr.out⟩

set_option maxHeartbeats 400000 in
theorem cmNot0 (y : Int) (w : World) : Calls Tryz.prog 118 #[.int .u64 y] w fun e w' => e = .returned (.bool (y != 0)) ∧ w = w' := by
  go_enter Tryz.func118, Tryz.ntmps118
  go_wp2_with fail
  go_ret
  exact ⟨rfl, rfl⟩
/-- where the first number that isn't 0 stands -/
def leadV (l : List Int) : Int := if leadE l < l.length then (leadE l : Int) else -1
set_option maxRecDepth 100000 in
set_option maxHeartbeats 1000000 in
theorem cmIndex (v : Value) (xs : List Int) (w : World) (hv : Ints .u64 w v xs) (hx : U64s xs) (hl : xs.length ≤ 1000000) :
    Calls Tryz.prog 84 #[v, .func (.func 118) #[] #[]] w (Ret (.int .i64 (leadV xs)) w) := by
  have C1 := hid fun y W => cmNot0 y W
  obtain ⟨L, hL⟩ : ∃ L, leadV xs = L := ⟨_, rfl⟩
  rw [hL]
  have HL := hid hL
  have Hx := hid hx
  obtain ⟨a, cap, rfl, k1, k2, k3⟩ := hv
  have K3 := hid k3
  obtain ⟨n, en⟩ : ∃ n, xs.length = n := ⟨_, rfl⟩
  have En := hid en
  rw [en] at k1 K3 hl ⊢
  clear k3 hL en hx
  go_enter Tryz.func84, Tryz.ntmps84
  go_wp2_with fail
  go_loopw [8] (fun iv wr => ∃ (j : Nat), iv = .int .i64 j ∧ j ≤ n ∧ Hid (∀ t, t < j → xs.getD t 0 = 0) ∧ Ext w wr) (fun iv _ => n - (intOf iv).toNat)
  case atStart => exact ⟨0, rfl, Nat.zero_le _, hid (fun t ht => absurd ht (Nat.not_lt_zero _)), Ext.refl _⟩
  case round =>
    obtain ⟨j, rfl, hj, hz, hw⟩ := hrel
    by_cases hlt : j < n
    · obtain ⟨b, off, rfl, hb, hc⟩ := K3.out (by omega)
      have g1 := (hw.cells _ _ hb).trans (hc j hlt)
      have ry := Hx.out.get (k := j) (by rw [En.out]; exact hlt)
      obtain ⟨y, ey⟩ : ∃ y, xs.getD j 0 = y := ⟨_, rfl⟩
      rw [ey] at g1 ry
      have Ey := hid ey
      clear ey hc
      by_cases c : y = 0
      · have e0 : ((0 : Int) != 0) = false := by decide
        have C2 := hid (C1.out 0)
        rw [e0] at C2
        subst c
        go_wp2_with (go_at_call 118; refine (C2.out _).mono ?_; rintro _ _ ⟨rfl, rfl⟩)
        go_roundw
        case rel =>
          refine ⟨j + 1, by go_num, by omega, hid (fun t ht => ?_), hw⟩
          by_cases e : t = j
          · rw [e, Ey.out]
          · exact hz.out t (by omega)
        case measure => simp [intOf]; omega
      · have e0 : (y != 0) = true := by simp [c]
        have C2 := hid (C1.out y)
        rw [e0] at C2
        have hLj := hid (show L = (j : Int) by
          have hjl : j < xs.length := by rw [En.out]; exact hlt
          have e1 : leadE xs = j := leadE_eq hjl (by rw [Ey.out]; exact c) hz.out
          rw [← HL.out]; unfold leadV
          rw [e1, if_pos hjl])
        go_wp2_with (go_at_call 118; refine (C2.out _).mono ?_; rintro _ _ ⟨rfl, rfl⟩)
        go_ret
        exact ⟨ret_int hLj.out.symm, hw⟩
    · obtain rfl : n = j := by omega
      have hLj := hid (show L = -1 by
        have e1 : leadE xs = xs.length := leadE_all fun t ht => hz.out t (by rw [← En.out]; exact ht)
        rw [← HL.out]; unfold leadV
        rw [e1, if_neg (Nat.lt_irrefl _)])
      go_wp2_with fail
      go_ret
      exact ⟨ret_int hLj.out.symm, hw⟩
end Go.Proofs.YtijpeepdedfhoaaGreat
/- Claims in memory: the document's own Grid, Short and Same of them. -/
namespace Go.Proofs.YtijpeepdedfhoaaGreat
open Go.RowKit Go.Maps

/-- a claim in memory -/
structure ClmR (w : World) (rv kv cv uv : Value) (R K : List Int) (C U : List (List Int)) : Prop where
  r : Ints .i64 w rv R
  k : Ints .i64 w kv K
  c : UsL w cv C
  u : UsL w uv U
theorem ClmR.ext {w w' : World} {rv kv cv uv : Value} {R K : List Int} {C U : List (List Int)} (h : ClmR w rv kv cv uv R K C U) (x : Ext w w') : ClmR w' rv kv cv uv R K C U := ⟨h.r.ext x, h.k.ext x, h.c.ext x, h.u.ext x⟩
theorem rows_ext {xs ys : List (List Int)} (hl : xs.length = ys.length) (h : ∀ j, j < xs.length → xs.getD j [] = ys.getD j []) : xs = ys := by
  refine List.ext_getElem hl fun j hj hj' => ?_
  have := h j hj
  simpa [List.getD, hj, hj'] using this
/-- are rows short? -/
def rows70 (ls : List (List Int)) : Bool := decide (∀ j, j < ls.length → (ls.getD j []).length ≤ 70)
end Go.Proofs.YtijpeepdedfhoaaGreat
