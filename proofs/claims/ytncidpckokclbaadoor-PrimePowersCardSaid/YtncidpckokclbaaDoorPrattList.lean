/- What a list shows is prime. -/
import Derived.Test.YtncidpckokclbaaDoorPratt
import Derived.Test.YtncidpckokclbaaDoorFirst
import Derived.Test.YtncidpckokclbaaDoorShows
import Derived.Test.YtncidpckokclbaaDoorRef02
namespace Go.Proofs.YtncidpckokclbaaDoor
open Go.RowKit Go.Maps

theorem divs_mul {q : Int} : ∀ {t : Nat} {n m : Int}, divs q t n = some m → n = q ^ t * m
  | 0, n, m, h => by simp [divs] at h; simp [h]
  | t + 1, n, m, h => by
    rw [divs] at h
    by_cases hz : n % q = 0
    · rw [if_pos hz] at h
      have := divs_mul h
      have e := Int.mul_ediv_cancel' (Int.dvd_of_emod_eq_zero hz)
      rw [← e, this, Int.pow_succ, Int.mul_comm (q ^ t) q, Int.mul_assoc]
    · rw [if_neg hz] at h; cases h
theorem upB_part {p : Nat} (hp : Prm p) : ∀ {ps : List (Int × Int)} {last n : Int}, upB last ps n = true → (p : Int) ∣ n → ∃ q ∈ ps, p ∣ q.1.natAbs
  | [], last, n, h, hd => by
    simp [upB] at h
    subst h
    have h1 := Int.ofNat_dvd_left.1 hd
    have := Nat.dvd_one.1 (by simpa using h1)
    have := hp.1
    omega
  | (q, t) :: ps, last, n, h, hd => by
    by_cases hb : q ≤ last ∨ t < 1
    · rw [upB_bad hb] at h; cases h
    · rw [upB, if_neg hb] at h
      cases e : divs q t.toNat n with
      | none => rw [e] at h; cases h
      | some m =>
        rw [e] at h
        have hm := divs_mul e
        rw [hm] at hd
        have h1 := Int.ofNat_dvd_left.1 hd
        rw [Int.natAbs_mul, Int.natAbs_pow] at h1
        rcases prm_mul hp h1 with h2 | h2
        · exact ⟨(q, t), by simp, prm_pow hp _ h2⟩
        · obtain ⟨x, hx, hx2⟩ := upB_part hp h (Int.ofNat_dvd_left.2 h2)
          exact ⟨x, by simp [hx], hx2⟩

theorem mpow_nat (n a t : Nat) : mpow (n : Int) (a : Int) (t : Int) = ((a ^ t % n : Nat) : Int) := by
  simp [mpow]

/-- a proof that leans on primes shows a root -/
theorem proves_root {known : Int → Bool} {f : Prf} (hok : f.Ok) (h2 : 2 < f.num) (h : provesB known f = true) (hk : ∀ q, known q = true → Prm q.natAbs) : Root f.num.natAbs f.root.natAbs := by
  obtain ⟨n, r, ps⟩ := f
  obtain ⟨hn0, _, hr0, _, _⟩ := hok
  simp only at *
  simp only [provesB, Bool.and_eq_true, decide_eq_true_eq] at h
  obtain ⟨⟨⟨⟨⟨h0, hh⟩, hl⟩, hu⟩, ha⟩, hr⟩ := h
  simp only [rootB, Bool.and_eq_true, decide_eq_true_eq] at hr
  obtain ⟨hr1, hr2⟩ := hr
  have hb := hasB_iff.1 hh
  obtain ⟨N, rfl⟩ : ∃ N : Nat, n = N := ⟨n.toNat, by omega⟩
  obtain ⟨R, rfl⟩ : ∃ R : Nat, r = R := ⟨r.toNat, by omega⟩
  simp only [Int.natAbs_natCast]
  have e1 : (N : Int) - 1 = ((N - 1 : Nat) : Int) := by omega
  rw [powv, if_pos hh, e1, mpow_nat] at hr1
  refine root_of (by omega) (by omega) fun q hq hd hone => ?_
  obtain ⟨x, hx, hx2⟩ := upB_part hq hu (by rw [e1]; exact Int.ofNat_dvd_left.2 (by simpa using hd))
  have hxk := hk x.1 (by have := List.all_eq_true.1 ha x hx; simpa using this)
  have hqx := prm_eq hxk hq hx2
  have hpos := upB_pos hu x hx
  have ex : x.1 = (q : Int) := by omega
  have := List.all_eq_true.1 hr2 x hx
  simp only [decide_eq_true_eq] at this
  rw [powv, if_pos hh, e1, ex, ← Int.natCast_ediv, mpow_nat, hone] at this
  exact this rfl

theorem lastD_le {l : List Prf} (h : ∀ k, k < l.length → okAt l k = true) : ∀ k, k ≤ l.length → 2 ≤ lastD l k
  | 0, _ => by simp [lastD]
  | k + 1, hk => by
    have h1 := lastD_le h k (by omega)
    have h2 := h k (by omega)
    simp only [okAt, Bool.and_eq_true, decide_eq_true_eq] at h2
    simp only [lastD]
    omega
/-- each number of a list that shows all has a root -/
theorem shown_root {l : List Prf} (hok : ∀ f ∈ l, f.Ok) (h : ∀ k, k < l.length → okAt l k = true) : ∀ (m k : Nat), k < m → k < l.length → 2 < (l.getD k .zero).num ∧ Root (l.getD k .zero).num.natAbs (l.getD k .zero).root.natAbs
  | 0, k, h1, _ => by omega
  | m + 1, k, h1, hk => by
    have h2 := h k hk
    simp only [okAt, Bool.and_eq_true, decide_eq_true_eq] at h2
    have h3 := lastD_le h k (by omega)
    refine ⟨by omega, proves_root (hok _ (getD_mem .zero hk)) (by omega) h2.2 fun q hq => ?_⟩
    simp only [knownB, decide_eq_true_eq] at hq
    rcases hq with rfl | hq
    · refine ⟨by decide, fun d hd => ?_⟩
      have := Nat.le_of_dvd (by decide) hd
      have h0 : d ≠ 0 := by rintro rfl; simp at hd
      simp at this ⊢
      omega
    · obtain ⟨f, hf, rfl⟩ := List.mem_map.1 hq
      obtain ⟨j, hj, rfl⟩ := List.mem_iff_getElem.1 hf
      have hj2 : j < k := by simp at hj; omega
      have := (shown_root hok h m j (by omega) (by omega)).2.prm
      simpa [List.getD, List.getElem?_eq_getElem (show j < l.length by omega)] using this

theorem firstD_all {l : List Prf} (h : firstD l = l.length) : ∀ k, k < l.length → okAt l k = true := fun k hk => firstD_ok l (by omega)
theorem okAt_take (l : List Prf) (m k : Nat) (hk : k < m) : okAt (l.take m) k = okAt l k := by
  have e1 : (l.take m).getD k .zero = l.getD k .zero := by simp [List.getD, hk]
  have e2 : lastD (l.take m) k = lastD l k := by
    cases k with
    | zero => rfl
    | succ k => simp [lastD, List.getD, show k < m by omega]
  have e3 : (l.take m).take k = l.take k := by rw [List.take_take]; congr 1; omega
  rw [okAt, okAt, e1, e2, e3]
theorem firstD_take {l : List Prf} (h : firstD l = l.length) {m : Nat} (hm : m ≤ l.length) : firstD (l.take m) = m := by
  have hl : (l.take m).length = m := by simp; omega
  refine firstD_eq (by omega) (fun j hj => ?_) (fun h' => by omega)
  rw [okAt_take l m j hj]
  exact firstD_all h j (by omega)

theorem root_isP {n : Int} (h2 : 2 ≤ n) (h : Prm n.natAbs) : IsP n := by
  refine ⟨h2, fun d hd hdd hz => ?_⟩
  have h1 := Int.dvd_of_emod_eq_zero hz
  have h3 : d.natAbs ∣ n.natAbs := Int.natAbs_dvd_natAbs.2 h1
  rcases h.2 _ h3 with e | e
  · omega
  · have : d = n := by omega
    subst this
    have := Int.mul_le_mul hd (Int.le_refl d) (by omega) (by omega)
    omega
theorem root_fermat {n r x : Int} (h : Root n.natAbs r.natAbs) (hn : 2 < n) (h0 : 0 < x) (hx : x < n) : mpow n x (n - 1) = 1 := by
  obtain ⟨N, rfl⟩ : ∃ N : Nat, n = N := ⟨n.toNat, by omega⟩
  obtain ⟨X, rfl⟩ : ∃ X : Nat, x = X := ⟨x.toNat, by omega⟩
  have := h.fermat (x := X) (by omega) (by simpa using (by omega : X < N))
  simp only [Int.natAbs_natCast] at this
  rw [show (N : Int) - 1 = ((N - 1 : Nat) : Int) by omega, mpow_nat, this]
  rfl
theorem root_unit {n r x : Int} (h : Root n.natAbs r.natAbs) (hn : 2 < n) (h0 : 0 < x) (hx : x < n) : unitB n x = true := by
  have := h.coprime (x := x.natAbs) (by omega) (by omega)
  simp [unitB, Int.gcd, this]
end Go.Proofs.YtncidpckokclbaaDoor
