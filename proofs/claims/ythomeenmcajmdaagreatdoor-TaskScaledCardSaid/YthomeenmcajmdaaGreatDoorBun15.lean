import Derived.Test.YthomeenmcajmdaaGreatDoorBun14
import Derived.Test.YthomeenmcajmdaaGreatDoorBun08
import Derived.Test.YthomeenmcajmdaaGreatDoorProof
import Derived.Test.YthomeenmcajmdaaGreatDoorBun10
import Derived.Test.YthomeenmcajmdaaGreatDoorBun13
import Derived.Lib.TrailingZeros
namespace Go.Proofs.YthomeenmcajmdaaGreatDoor
open Go.RowKit Go.Maps
set_option maxRecDepth 100000 in
set_option maxHeartbeats 1000000 in
theorem Build_none (p : Int) (ps : List (Int × Int)) (w : World) (hp0 : 3 ≤ p) (hp1 : p ≤ 9223372036854775807) (hd : partsD (p - 1) = (ps, 0)) (hq : primeB p = false) (hT : Tab w) :
    Calls Tryz.prog 17 #[.int .u64 p] w (Ret (.tuple #[.slice none 0 0, .int .i64 6]) w) := by
  have hmm := @run_makeMap Tryz.prog
  have hpr : rightB p = true := rightB_mk ⟨by omega, hp1⟩
  have HPN := hid (fun w0 (ht : Tab w0) => proof_none p ps w0 hp0 hp1 hd hq ht)
  have HT := hid hT; have HR := hid hpr
  have b2 : (p == 2) = false := by simp; omega
  have hkey := hid (u64_keyOf (n := p) (by omega) (by omega))
  have hown := hid ((World.ownsMap_made w Tryz.prog 22 rawElem).alloc (.cells #[.int .u64 p] 22))
  clear hT hpr hd hq
  go_enter Tryz.func17, Tryz.ntmps17
  go_wp2_with fail
  refine (right_any _ _ (by omega) (by omega)).mono ?_; rintro _ w1 ⟨rfl, h1⟩
  rw [HR.out]
  subst h1
  go_wp2_with fail
  refine wp_loop_rounds 1 ?_
  rw [rounds_succ]
  go_wp2_with (first | (at_lookup; refine wpList_lookup_raw _ rfl _ _ 68 rfl 22 71 u64_key Tryz.underlying68 (proof_zero _) w.heap.size _ _ rfl hown.out _ _ rfl hkey.out _ rfl ?_) | fail)
  refine (HPN.out _ (HT.out.ext (by repeat (first | exact Ext.refl _ | assumption | refine Ext.drew ?_ | refine Ext.drewN ?_ _ | refine Ext.alloc ?_ _ | refine Ext.trans ?_ (by assumption))))).mono ?_; rintro _ w2 ⟨rfl, x2⟩
  go_wp2_with fail
  (try simp only [Exit.inBlock, Exit.then])
  refine bodyPost_ret (results_tmp2 rfl _ _ _) rfl ?_
  exact ⟨rfl, (by repeat (first | exact Ext.refl _ | assumption | refine Ext.drew ?_ | refine Ext.drewN ?_ _ | refine Ext.alloc ?_ _ | refine Ext.trans ?_ (by assumption)))⟩
end Go.Proofs.YthomeenmcajmdaaGreatDoor
namespace Go.Proofs.YthomeenmcajmdaaGreatDoor
open Go.RowKit Go.Maps
def steps : List (Int × Int) → Int → Option Int
  | [], n => some n
  | (q, t) :: ps, n => match divs q t.toNat n with
    | none => none
    | some m => steps ps m
def rises : Int → List (Int × Int) → Prop
  | _, [] => True
  | last, (q, t) :: ps => last < q ∧ 1 ≤ t ∧ rises q ps
theorem upB_steps : ∀ {ps : List (Int × Int)} {last n : Int}, rises last ps → steps ps n = some 1 → upB last ps n = true
  | [], last, n, _, h => by simp [steps] at h; simp [upB, h]
  | (q, t) :: ps, last, n, hr, h => by
    obtain ⟨h1, h2, h3⟩ := hr
    rw [upB, if_neg (by omega)]
    rw [steps] at h
    cases e : divs q t.toNat n with
    | none => rw [e] at h; cases h
    | some m =>
      rw [e] at h
      exact upB_steps h3 h
theorem rises_low : ∀ {ps : List (Int × Int)} {a b : Int}, rises b ps → a ≤ b → rises a ps
  | [], _, _, _, _ => trivial
  | (q, t) :: ps, a, b, h, hab => ⟨by have := h.1; omega, h.2.1, h.2.2⟩
theorem rises_snoc : ∀ {ps : List (Int × Int)} {a q t : Int}, rises a ps → (∀ x ∈ ps, x.1 < q) → a < q → 1 ≤ t → rises a (ps ++ [(q, t)])
  | [], a, q, t, _, _, h2, h3 => ⟨h2, h3, trivial⟩
  | (p, s) :: ps, a, q, t, h, h1, h2, h3 => ⟨h.1, h.2.1, rises_snoc h.2.2 (fun x hx => h1 x (by simp [hx])) (h1 (p, s) (by simp)) h3⟩
theorem steps_snoc : ∀ {ps : List (Int × Int)} {n m q t k : Int}, steps ps n = some m → divs q t.toNat m = some k → steps (ps ++ [(q, t)]) n = some k
  | [], n, m, q, t, k, h, hd => by simp [steps] at h; subst h; simp [steps, hd]
  | (p, s) :: ps, n, m, q, t, k, h, hd => by
    rw [steps] at h
    cases e : divs p s.toNat n with
    | none => rw [e] at h; cases h
    | some x =>
      rw [e] at h
      simp only [List.cons_append, steps, e]
      exact steps_snoc h hd
theorem strip_spec {d : Int} (hd : 2 ≤ d) : ∀ (f : Nat) (n : Int), 1 ≤ n → n < 2 ^ f →
    divs d (stripT d f n).toNat n = some (stripN d f n) ∧ stripN d f n % d ≠ 0 ∧ (∃ k, 1 ≤ k ∧ n = k * stripN d f n)
  | 0, n, h1, h2 => by simp at h2; omega
  | f + 1, n, h1, h2 => by
    by_cases hz : n % d = 0
    · have hh := strip_half (t := 0) (m := n) hd h1 hz (by simp)
      have hb : n / d < 2 ^ f := by
        have : n / d * 2 ^ (0 + 1) ≤ n := hh.1
        rw [Int.pow_succ] at h2
        simp at this
        omega
      have ih := strip_spec hd f (n / d) hh.2.1 hb
      have hle := stripN_le hd f (n / d) hh.2.1
      rw [(strip_step hz).1, (strip_step hz).2]
      refine ⟨?_, ih.2.1, ?_⟩
      · rw [show (stripT d f (n / d) + 1).toNat = (stripT d f (n / d)).toNat + 1 by omega, divs, if_pos hz]
        exact ih.1
      · obtain ⟨k, hk, e⟩ := ih.2.2
        refine ⟨d * k, ?_, ?_⟩
        · have := Int.mul_le_mul hd hk (by omega) (by omega); omega
        · rw [Int.mul_assoc, ← e]; exact (Int.mul_ediv_cancel' (Int.dvd_of_emod_eq_zero hz)).symm
    · rw [(strip_zero _ hz).1, (strip_zero _ hz).2]
      exact ⟨rfl, hz, 1, by omega, by omega⟩
theorem not_div_of {n k m c : Int} (e : n = k * m) (h : n % c ≠ 0) : m % c ≠ 0 := fun hz => by
  obtain ⟨x, hx⟩ := Int.dvd_of_emod_eq_zero hz
  apply h
  rw [e, hx, Int.mul_left_comm]
  exact Int.mul_emod_right c (k * x)
theorem partsF_spec : ∀ (f : Nat) (d n : Int), 2 ≤ d → d + f ≤ 65537 → 1 ≤ n → n < 18446744073709551616 → (∀ c, 2 ≤ c → c < d → n % c ≠ 0) →
    steps (partsF f d n).1 n = some (partsF f d n).2 ∧ rises (d - 1) (partsF f d n).1 ∧ (∀ q ∈ (partsF f d n).1, IsP q.1) ∧
      (∀ q ∈ (partsF f d n).1, 1 < (partsF f d n).2 → q.1 < (partsF f d n).2) ∧ (d + f = 65537 → 1 < (partsF f d n).2 → (partsF f d n).2 < 4294967296 → IsP (partsF f d n).2) ∧ (∀ c, 2 ≤ c → c < d → (partsF f d n).2 % c ≠ 0)
  | 0, d, n, hd, hf, h1, h2, hc => by
    simp only [partsF]
    refine ⟨rfl, trivial, by simp, by simp, fun he hn hn2 => ⟨by omega, fun c h3 h4 => ?_⟩, hc⟩
    rcases Int.lt_or_le c d with h5 | h5
    · exact hc c h3 h5
    · have h6 : 65537 ≤ c := by omega
      have := Int.mul_le_mul h6 h6 (by omega) (by omega)
      omega
  | f + 1, d, n, hd, hf, h1, h2, hc => by
    by_cases hle : d * d ≤ n
    · have hs := strip_spec hd 64 n h1 (Int.lt_of_lt_of_le h2 (by decide))
      have hn := stripN_le hd 64 n h1
      obtain ⟨k, hk, ek⟩ := hs.2.2
      have hc2 : ∀ c, 2 ≤ c → c < d + 1 → stripN d 64 n % c ≠ 0 := fun c h3 h4 => by
        rcases Int.lt_or_le c d with h5 | h5
        · exact not_div_of ek (hc c h3 h5)
        · obtain rfl : c = d := by omega
          exact hs.2.1
      have ih := partsF_spec f (d + 1) (stripN d 64 n) (by omega) (by omega) hn.1 (by omega) hc2
      have hr := partsF_ok f (d + 1) (stripN d 64 n) (by omega) (by omega) hn.1
      rw [partsF, if_pos hle]
      simp only
      by_cases ht : 0 < stripT d 64 n
      · rw [if_pos ht]
        have hz : n % d = 0 := by
          apply Classical.byContradiction
          intro hz
          rw [(strip_zero 64 hz).1] at ht
          omega
        refine ⟨?_, ⟨by omega, by omega, rises_low ih.2.1 (by omega)⟩, fun q hq => ?_, fun q hq h5 => ?_, fun he => ih.2.2.2.2.1 (by omega), fun c h3 h4 => ih.2.2.2.2.2 c h3 (by omega)⟩
        · rw [steps, hs.1]; exact ih.1
        · rcases List.mem_cons.1 hq with rfl | hq
          · refine ⟨hd, fun c h3 h4 hz2 => ?_⟩
            simp only at h4 hz2
            have h5 : c < d := by
              rcases Int.lt_or_le c d with h6 | h6
              · exact h6
              · have := Int.mul_le_mul h6 h3 (by omega) (by omega); omega
            exact hc c h3 h5 (Int.emod_eq_zero_of_dvd (Int.dvd_trans (Int.dvd_of_emod_eq_zero hz2) (Int.dvd_of_emod_eq_zero hz)))
          · exact ih.2.2.1 q hq
        · rcases List.mem_cons.1 hq with rfl | hq
          · simp only
            apply Classical.byContradiction
            intro h6
            exact ih.2.2.2.2.2 (partsF f (d + 1) (stripN d 64 n)).2 (by omega) (by omega) Int.emod_self
          · exact ih.2.2.2.1 q hq h5
      · rw [if_neg ht]
        exact ⟨by
          have h0 : stripT d 64 n = 0 := by omega
          have := hs.1
          rw [h0] at this
          simp [divs] at this
          rw [← this] at ih ⊢
          exact ih.1, rises_low ih.2.1 (by omega), ih.2.2.1, ih.2.2.2.1, fun he => ih.2.2.2.2.1 (by omega), fun c h3 h4 => ih.2.2.2.2.2 c h3 (by omega)⟩
    · rw [partsF, if_neg hle]
      refine ⟨rfl, trivial, by simp, by simp, fun _ hn hn2 => ⟨by omega, fun c h3 h4 => ?_⟩, hc⟩
      rcases Int.lt_or_le c d with h5 | h5
      · exact hc c h3 h5
      · have := Int.mul_le_mul h5 h5 (by omega) (by omega)
        omega
theorem partsD_full {n : Int} (he : (partsD n).2 = 0) : 1 ≤ n ∧ n < 9223372036854775808 ∧ steps (partsD n).1 n = some 1 ∧ rises 1 (partsD n).1 ∧ ∀ q ∈ (partsD n).1, IsP q.1 := by
  unfold partsD at he ⊢
  by_cases h : n ≤ 0 ∨ 9223372036854775808 ≤ n
  · rw [if_pos h] at he; simp at he
  · rw [if_neg h] at he ⊢
    have hs := partsF_spec 65535 2 n (by omega) (by omega) (by omega) (by omega) (fun c h1 h2 => by omega)
    have hr := partsF_ok 65535 2 n (by omega) (by omega) (by omega)
    simp only at he ⊢
    refine ⟨by omega, by omega, ?_⟩
    by_cases hb : 4294967296 ≤ (partsF 65535 2 n).2
    · rw [if_pos hb] at he; simp at he
    · rw [if_neg hb] at he ⊢
      by_cases h1 : 1 < (partsF 65535 2 n).2
      · rw [if_pos h1]
        refine ⟨steps_snoc hs.1 ?_, rises_snoc hs.2.1 (fun x hx => hs.2.2.2.1 x hx h1) (by omega) (by omega), fun q hq => ?_⟩
        · show divs _ (1 : Int).toNat _ = some 1
          rw [show (1 : Int).toNat = 1 by rfl, divs, if_pos Int.emod_self, divs, Int.ediv_self (by omega)]
        · rcases List.mem_append.1 hq with hq | hq
          · exact hs.2.2.1 q hq
          · simp at hq
            subst hq
            exact hs.2.2.2.2.1 (by omega) h1 (by omega)
      · rw [if_neg h1]
        refine ⟨?_, hs.2.1, hs.2.2.1⟩
        rw [hs.1]
        congr 1
        omega
end Go.Proofs.YthomeenmcajmdaaGreatDoor
namespace Go.Proofs.YthomeenmcajmdaaGreatDoor
open Go.RowKit Go.Maps
theorem divs_mul {q : Int} : ∀ {t : Nat} {n m : Int}, divs q t n = some m → n = q ^ t * m
  | 0, n, m, h => by simp [divs] at h; simp [h]
  | t + 1, n, m, h => by
    rw [divs] at h
    by_cases hz : n % q = 0
    · rw [if_pos hz] at h
      have := divs_mul h
      have e := Int.mul_ediv_cancel' (Int.dvd_of_emod_eq_zero hz)
      rw [← e, this, Int.pow_succ, Int.mul_comm (q ^ t) q, Int.mul_assoc]
    · rw [if_neg hz] at h; cases h
theorem upB_part {p : Nat} (hp : Prm p) : ∀ {ps : List (Int × Int)} {last n : Int}, upB last ps n = true → (p : Int) ∣ n → ∃ q ∈ ps, p ∣ q.1.natAbs
  | [], last, n, h, hd => by
    simp [upB] at h
    subst h
    have h1 := Int.ofNat_dvd_left.1 hd
    have := Nat.dvd_one.1 (by simpa using h1)
    have := hp.1
    omega
  | (q, t) :: ps, last, n, h, hd => by
    by_cases hb : q ≤ last ∨ t < 1
    · rw [upB_bad hb] at h; cases h
    · rw [upB, if_neg hb] at h
      cases e : divs q t.toNat n with
      | none => rw [e] at h; cases h
      | some m =>
        rw [e] at h
        have hm := divs_mul e
        rw [hm] at hd
        have h1 := Int.ofNat_dvd_left.1 hd
        rw [Int.natAbs_mul, Int.natAbs_pow] at h1
        rcases prm_mul hp h1 with h2 | h2
        · exact ⟨(q, t), by simp, prm_pow hp _ h2⟩
        · obtain ⟨x, hx, hx2⟩ := upB_part hp h (Int.ofNat_dvd_left.2 h2)
          exact ⟨x, by simp [hx], hx2⟩
theorem mpow_nat (n a t : Nat) : mpow (n : Int) (a : Int) (t : Int) = ((a ^ t % n : Nat) : Int) := by
  simp [mpow]
theorem proves_root {known : Int → Bool} {f : Prf} (hok : f.Ok) (h2 : 2 < f.num) (h : provesB known f = true) (hk : ∀ q, known q = true → Prm q.natAbs) : Root f.num.natAbs f.root.natAbs := by
  obtain ⟨n, r, ps⟩ := f
  obtain ⟨hn0, _, hr0, _, _⟩ := hok
  simp only at *
  simp only [provesB, Bool.and_eq_true, decide_eq_true_eq] at h
  obtain ⟨⟨⟨⟨⟨h0, hh⟩, hl⟩, hu⟩, ha⟩, hr⟩ := h
  simp only [rootB, Bool.and_eq_true, decide_eq_true_eq] at hr
  obtain ⟨hr1, hr2⟩ := hr
  have hb := hasB_iff.1 hh
  obtain ⟨N, rfl⟩ : ∃ N : Nat, n = N := ⟨n.toNat, by omega⟩
  obtain ⟨R, rfl⟩ : ∃ R : Nat, r = R := ⟨r.toNat, by omega⟩
  simp only [Int.natAbs_natCast]
  have e1 : (N : Int) - 1 = ((N - 1 : Nat) : Int) := by omega
  rw [powv, if_pos hh, e1, mpow_nat] at hr1
  refine root_of (by omega) (by omega) fun q hq hd hone => ?_
  obtain ⟨x, hx, hx2⟩ := upB_part hq hu (by rw [e1]; exact Int.ofNat_dvd_left.2 (by simpa using hd))
  have hxk := hk x.1 (by have := List.all_eq_true.1 ha x hx; simpa using this)
  have hqx := prm_eq hxk hq hx2
  have hpos := upB_pos hu x hx
  have ex : x.1 = (q : Int) := by omega
  have := List.all_eq_true.1 hr2 x hx
  simp only [decide_eq_true_eq] at this
  rw [powv, if_pos hh, e1, ex, ← Int.natCast_ediv, mpow_nat, hone] at this
  exact this rfl
theorem lastD_le {l : List Prf} (h : ∀ k, k < l.length → okAt l k = true) : ∀ k, k ≤ l.length → 2 ≤ lastD l k
  | 0, _ => by simp [lastD]
  | k + 1, hk => by
    have h1 := lastD_le h k (by omega)
    have h2 := h k (by omega)
    simp only [okAt, Bool.and_eq_true, decide_eq_true_eq] at h2
    simp only [lastD]
    omega
theorem shown_root {l : List Prf} (hok : ∀ f ∈ l, f.Ok) (h : ∀ k, k < l.length → okAt l k = true) : ∀ (m k : Nat), k < m → k < l.length → 2 < (l.getD k .zero).num ∧ Root (l.getD k .zero).num.natAbs (l.getD k .zero).root.natAbs
  | 0, k, h1, _ => by omega
  | m + 1, k, h1, hk => by
    have h2 := h k hk
    simp only [okAt, Bool.and_eq_true, decide_eq_true_eq] at h2
    have h3 := lastD_le h k (by omega)
    refine ⟨by omega, proves_root (hok _ (getD_mem .zero hk)) (by omega) h2.2 fun q hq => ?_⟩
    simp only [knownB, decide_eq_true_eq] at hq
    rcases hq with rfl | hq
    · refine ⟨by decide, fun d hd => ?_⟩
      have := Nat.le_of_dvd (by decide) hd
      have h0 : d ≠ 0 := by rintro rfl; simp at hd
      simp at this ⊢
      omega
    · obtain ⟨f, hf, rfl⟩ := List.mem_map.1 hq
      obtain ⟨j, hj, rfl⟩ := List.mem_iff_getElem.1 hf
      have hj2 : j < k := by simp at hj; omega
      have := (shown_root hok h m j (by omega) (by omega)).2.prm
      simpa [List.getD, List.getElem?_eq_getElem (show j < l.length by omega)] using this
theorem firstD_all {l : List Prf} (h : firstD l = l.length) : ∀ k, k < l.length → okAt l k = true := fun k hk => firstD_ok l (by omega)
theorem root_isP {n : Int} (h2 : 2 ≤ n) (h : Prm n.natAbs) : IsP n := by
  refine ⟨h2, fun d hd hdd hz => ?_⟩
  have h1 := Int.dvd_of_emod_eq_zero hz
  have h3 : d.natAbs ∣ n.natAbs := Int.natAbs_dvd_natAbs.2 h1
  rcases h.2 _ h3 with e | e
  · omega
  · have : d = n := by omega
    subst this
    have := Int.mul_le_mul hd (Int.le_refl d) (by omega) (by omega)
    omega
end Go.Proofs.YthomeenmcajmdaaGreatDoor
namespace Go.Proofs.YthomeenmcajmdaaGreatDoor
def powC (n a t : Nat) : Nat := if 2 ≤ n ∧ a < n then a ^ t % n else 0
def stLoopC (n : Nat) : Nat → Nat → Bool
  | 0, _ => false
  | t + 1, x => Nat.beq x (n - 1) || stLoopC n t (powC n x 2)
def standsC (n b : Nat) : Bool := Nat.beq (powC n (b % n) ((n - 1) / 2 ^ Lib.ctz 64 (n - 1))) 1 || stLoopC n (Lib.ctz 64 (n - 1)) (powC n (b % n) ((n - 1) / 2 ^ Lib.ctz 64 (n - 1)))
def primeCL (n : Nat) : List Nat → Bool
  | [] => true
  | b :: bs => if Nat.beq (n % b) 0 then Nat.beq n b else standsC n b && primeCL n bs
def primeC (n : Nat) : Bool := primeCL n [2, 3, 5, 7, 11, 13, 17, 19, 23, 29, 31, 37]
end Go.Proofs.YthomeenmcajmdaaGreatDoor
namespace Go.Proofs.YthomeenmcajmdaaGreatDoor
open Go.RowKit Go.Maps
theorem powv_C (n a t : Nat) (hn : n ≤ 9223372036854775807) : powv n a t = (powC n a t : Int) := by
  unfold powv powC
  by_cases h : 2 ≤ n ∧ a < n
  · rw [if_pos (hasB_iff.2 ⟨⟨by omega, by omega⟩, by omega⟩), if_pos h, mpow_nat]
  · rw [if_neg (fun hh => h (by have := hasB_iff.1 hh; omega)), if_neg h]; rfl
def rootC (n r : Nat) (ps : List (Int × Int)) : Bool := Nat.beq (powC n r (n - 1)) 1 && ps.all fun q => !Nat.beq (powC n r ((n - 1) / q.1.toNat)) 1
theorem rootB_C (n r : Nat) (ps : List (Int × Int)) (hn : 1 ≤ n) (hn2 : n ≤ 9223372036854775807) (hp : ∀ q ∈ ps, 0 ≤ q.1) : rootB n r ps = rootC n r ps := by
  have e1 : (n : Int) - 1 = ((n - 1 : Nat) : Int) := by omega
  have h1 : decide (powv n r ((n : Int) - 1) = 1) = Nat.beq (powC n r (n - 1)) 1 := by
    rw [e1, powv_C _ _ _ hn2, Bool.eq_iff_iff, decide_eq_true_eq, Nat.beq_eq]; omega
  unfold rootB rootC
  rw [h1]
  congr 1
  rw [Bool.eq_iff_iff, List.all_eq_true, List.all_eq_true]
  have h2 : ∀ q ∈ ps, decide (powv n r (((n : Int) - 1) / q.1) ≠ 1) = !Nat.beq (powC n r ((n - 1) / q.1.toNat)) 1 := by
    intro q hq
    obtain ⟨Q, hQ⟩ : ∃ Q : Nat, q.1 = Q := ⟨q.1.toNat, by have := hp q hq; omega⟩
    rw [hQ, Int.toNat_natCast, e1, ← Int.natCast_ediv, powv_C _ _ _ hn2, Bool.eq_iff_iff, decide_eq_true_eq, Bool.not_eq_true', ← Bool.not_eq_true, Nat.beq_eq]; omega
  constructor
  · intro h q hq; rw [← h2 q hq]; exact h q hq
  · intro h q hq; rw [h2 q hq]; exact h q hq
theorem stLoop_C (n : Nat) (hn : 1 ≤ n) (hn2 : n ≤ 9223372036854775807) : ∀ (t x : Nat), stLoop n t x = stLoopC n t x
  | 0, x => rfl
  | t + 1, x => by
    rw [stLoop, stLoopC, show ((2 : Int)) = ((2 : Nat) : Int) from rfl, powv_C _ _ _ hn2, stLoop_C n hn hn2 t]
    by_cases h : x = n - 1
    · rw [if_pos (by omega), show Nat.beq x (n - 1) = true by rw [Nat.beq_eq]; exact h, Bool.true_or]
    · rw [if_neg (by omega), show Nat.beq x (n - 1) = false by rw [← Bool.not_eq_true, Nat.beq_eq]; exact h, Bool.false_or]
theorem standsB_C (n b : Nat) (hn : 1 ≤ n) (hn2 : n ≤ 9223372036854775807) : standsB n b = standsC n b := by
  unfold standsB standsC
  have e1 : (n : Int) - 1 = ((n - 1 : Nat) : Int) := by omega
  have e2 : ((n - 1 : Nat) : Int) / 2 ^ Lib.ctz 64 (n - 1) = (((n - 1) / 2 ^ Lib.ctz 64 (n - 1) : Nat) : Int) := by
    rw [Int.natCast_ediv]; congr 1
  rw [e1, Int.toNat_natCast, e2, ← Int.natCast_emod, powv_C _ _ _ hn2, stLoop_C n hn hn2]
  congr 1
  rw [Bool.eq_iff_iff, decide_eq_true_eq, Nat.beq_eq]; omega
theorem primeL_C (n : Nat) (hn : 1 ≤ n) (hn2 : n ≤ 9223372036854775807) : ∀ bs : List Nat, primeL n (bs.map fun b : Nat => (b : Int)) = primeCL n bs
  | [] => rfl
  | b :: bs => by
    rw [List.map_cons, primeL, primeCL, primeL_C n hn hn2 bs, standsB_C n b hn hn2]
    by_cases h : n % b = 0
    · rw [if_pos (by omega), if_pos (by rw [Nat.beq_eq]; exact h), Bool.eq_iff_iff, decide_eq_true_eq, Nat.beq_eq]; omega
    · rw [if_neg (by omega), show Nat.beq (n % b) 0 = false by rw [← Bool.not_eq_true, Nat.beq_eq]; exact h, if_neg Bool.false_ne_true]
      cases standsC n b <;> simp
theorem primeB_C (n : Nat) (hn : 1 ≤ n) (hn2 : n ≤ 9223372036854775807) : primeB n = primeC n := by
  rw [primeB, primeC, ← primeL_C n hn hn2]; rfl
def findR (n : Nat) (ps : List (Int × Int)) : Nat → Nat → Nat
  | 0, j => j
  | f + 1, j => if rootC n j ps then j else findR n ps f (j + 1)
theorem findR_le (n : Nat) (ps : List (Int × Int)) : ∀ f j, j ≤ findR n ps f j ∧ findR n ps f j ≤ j + f
  | 0, j => by simp [findR]
  | f + 1, j => by
    rw [findR]
    split
    · omega
    · have := findR_le n ps f (j + 1); omega
theorem findR_least (n : Nat) (ps : List (Int × Int)) : ∀ f j i, j ≤ i → i < findR n ps f j → rootC n i ps = false
  | 0, j, i, h1, h2 => by simp [findR] at h2; omega
  | f + 1, j, i, h1, h2 => by
    rw [findR] at h2
    split at h2
    · omega
    · by_cases e : i = j
      · rw [e]; simpa using ‹¬rootC n j ps = true›
      · exact findR_least n ps f (j + 1) i (by omega) h2
theorem partsOf_pos (n : Int) : ∀ q ∈ partsOf n, 0 ≤ q.1 := fun q hq => by have := partsD_ok (n - 1) q hq; omega
theorem isP_prm {n : Int} (h : IsP n) : Prm n.natAbs := by
  have h2 := h.1
  refine ⟨by omega, fun d hd => ?_⟩
  apply Classical.byContradiction
  intro hc
  have hle := Nat.le_of_dvd (by omega) hd
  have h0 : d ≠ 0 := by rintro rfl; have := Nat.eq_zero_of_zero_dvd hd; omega
  obtain ⟨e, he⟩ := hd
  have he0 : e ≠ 0 := by rintro rfl; simp at he; omega
  have he1 : e ≠ 1 := by rintro rfl; simp at he; omega
  have hd1 : 2 ≤ d := by omega
  have hen : (n : Int) = (d : Int) * (e : Int) := by rw [← Int.natCast_mul, ← he]; omega
  rcases Nat.le_total d e with hde | hde
  · refine h.2 d (by omega) ?_ (by rw [hen]; exact Int.mul_emod_right _ _)
    rw [hen]; exact Int.mul_le_mul_of_nonneg_left (by omega) (by omega)
  · refine h.2 e (by omega) ?_ (by rw [hen]; exact Int.mul_emod_left _ _)
    rw [hen]; exact Int.mul_le_mul_of_nonneg_right (by omega) (by omega)
theorem partsD_small {n : Int} (h1 : 1 ≤ n) (h2 : n < 4294967296) : (partsD n).2 = 0 := by
  unfold partsD
  rw [if_neg (by omega)]
  have := partsF_ok 65535 2 n (by omega) (by omega) h1
  simp only
  rw [if_neg (by omega)]
  split <;> rfl
set_option maxHeartbeats 400000 in
theorem Build_low (p : Int) (w : World) (hp0 : 0 ≤ p) (hp1 : p < 2) : Calls Tryz.prog 17 #[.int .u64 p] w (Ret (.tuple #[.slice none 0 0, .int .i64 1]) w) := by
  have hr : rightB p = false := by
    cases e : rightB p with
    | false => rfl
    | true => have := rightB_true e; omega
  have HR := hid hr
  clear hr
  go_enter Tryz.func17, Tryz.ntmps17
  go_wp2_with fail
  refine (right_any _ _ (by omega) (by omega)).mono ?_; rintro _ w1 ⟨rfl, h1⟩
  rw [HR.out]
  subst h1
  go_wp2_with fail
  go_ret2
  exact ⟨rfl, (by repeat (first | exact Ext.refl _ | assumption | refine Ext.drew ?_ | refine Ext.drewN ?_ _ | refine Ext.alloc ?_ _ | refine Ext.trans ?_ (by assumption)))⟩
theorem good_nil {g : Int → Int} : Good [] g := by refine ⟨?_, ?_, ?_, ?_, ?_, ?_, ?_, ?_⟩ <;> (intro n hn; simp at hn)
end Go.Proofs.YthomeenmcajmdaaGreatDoor
namespace Go.Proofs.YthomeenmcajmdaaGreatDoor
def ev : List Int → Int → Int
  | [], _ => 0
  | c :: cs, x => c + x * ev cs x
def addL : List Int → List Int → List Int
  | [], _ => []
  | c :: cs, [] => c :: cs
  | c :: cs, d :: ds => (c + d) :: addL cs ds
theorem addL_length : ∀ cs ds : List Int, (addL cs ds).length = cs.length
  | [], _ => by simp [addL]
  | c :: cs, [] => by simp [addL]
  | c :: cs, d :: ds => by simp [addL, addL_length cs ds]
theorem ev_addL (x : Int) : ∀ cs ds : List Int, ds.length ≤ cs.length → ev (addL cs ds) x = ev cs x + ev ds x
  | [], [], _ => by simp [addL, ev]
  | [], d :: ds, h => by simp at h
  | c :: cs, [], _ => by simp [addL, ev]
  | c :: cs, d :: ds, h => by
    have := ev_addL x cs ds (by simpa using h)
    simp only [addL, ev, this, Int.mul_add]; omega
theorem addL_last : ∀ cs ds : List Int, ds.length < cs.length → (addL cs ds).getLast? = cs.getLast?
  | [], ds, h => by simp at h
  | c :: cs, [], _ => by simp [addL]
  | [c], d :: ds, h => by simp at h
  | c :: c' :: cs, d :: ds, h => by
    have := addL_last (c' :: cs) ds (by simpa using h)
    have hl := addL_length (c' :: cs) ds
    match e : addL (c' :: cs) ds with
    | [] => rw [e] at hl; simp at hl
    | y :: ys => rw [addL, e, List.getLast?_cons_cons, List.getLast?_cons_cons, ← e, this]
theorem ev_scale (a x : Int) : ∀ ds : List Int, ev (ds.map (a * ·)) x = a * ev ds x
  | [] => by simp [ev]
  | d :: ds => by
    simp only [List.map_cons, ev, ev_scale a x ds, Int.mul_add]
    rw [Int.mul_left_comm]
def quo (a : Int) : List Int → List Int
  | [] => []
  | _ :: cs => addL cs ((quo a cs).map (a * ·))
theorem quo_length (a : Int) : ∀ cs : List Int, (quo a cs).length = cs.length - 1
  | [] => rfl
  | c :: cs => by simp [quo, addL_length]
theorem quo_ev (a x : Int) : ∀ cs : List Int, ev cs x - ev cs a = (x - a) * ev (quo a cs) x
  | [] => by simp [ev, quo]
  | c :: cs => by
    have ih := quo_ev a x cs
    rw [quo, ev_addL x _ _ (by rw [List.length_map, quo_length]; omega), ev_scale, ev, ev, Int.mul_add, Int.mul_left_comm, ← ih, Int.sub_mul, Int.mul_sub]
    omega
theorem quo_last (a : Int) (c c' : Int) (cs : List Int) : (quo a (c :: c' :: cs)).getLast? = (c :: c' :: cs).getLast? := by
  rw [quo, addL_last _ _ (by rw [List.length_map, quo_length]; simp), List.getLast?_cons_cons]
theorem prm_dvd_mul {n : Nat} (h : Prm n) {a b : Int} (hd : (n : Int) ∣ a * b) : (n : Int) ∣ a ∨ (n : Int) ∣ b := by
  have h1 := Int.ofNat_dvd_left.1 hd
  rw [Int.natAbs_mul] at h1
  exact (prm_mul h h1).imp Int.ofNat_dvd_left.2 Int.ofNat_dvd_left.2
theorem roots_le {n : Nat} (hn : Prm n) : ∀ (d : Nat) (cs rs : List Int), cs.length = d + 1 → cs.getLast? = some 1 → rs.Nodup → (∀ r ∈ rs, 0 ≤ r ∧ r < n ∧ (n : Int) ∣ ev cs r) → rs.length ≤ d
  | 0, [c], rs, _, h1, _, hr => by
    simp at h1; subst h1
    cases rs with
    | nil => simp
    | cons r rs =>
      have := (hr r (by simp)).2.2
      simp [ev] at this
      have h2 := Int.ofNat_dvd_left.1 this
      have h3 := Nat.le_of_dvd (by decide) h2
      have := hn.1
      omega
  | d + 1, c :: c' :: cs, [], _, _, _, _ => by simp
  | d + 1, c :: c' :: cs, a :: rs, hl, h1, hnd, hr => by
    rw [List.nodup_cons] at hnd
    have ha := hr a (by simp)
    have := roots_le hn d (quo a (c :: c' :: cs)) rs (by rw [quo_length]; simp at hl ⊢; omega) (by rw [quo_last]; exact h1) hnd.2 (fun b hb => by
      have hb2 := hr b (by simp [hb])
      refine ⟨hb2.1, hb2.2.1, ?_⟩
      have hd := Int.dvd_sub hb2.2.2 ha.2.2
      rw [quo_ev] at hd
      rcases prm_dvd_mul hn hd with h | h
      · exfalso
        have : b ≠ a := fun e => hnd.1 (e ▸ hb)
        obtain ⟨k, hk⟩ := h
        have hk0 : k = 0 := by
          rcases Int.lt_trichotomy k 0 with h | h | h
          · have := Int.mul_le_mul_of_nonneg_left (show k ≤ -1 by omega) (show (0 : Int) ≤ n by omega)
            omega
          · exact h
          · have := Int.mul_le_mul_of_nonneg_left (show 1 ≤ k by omega) (show (0 : Int) ≤ n by omega)
            omega
        rw [hk0] at hk
        omega
      · exact h)
    simp only [List.length_cons]
    omega
def powLess (d : Nat) : List Int := -1 :: (List.replicate (d - 1) 0 ++ [1])
theorem ev_zeros (x : Int) : ∀ k : Nat, ev (List.replicate k 0 ++ [1]) x = x ^ k
  | 0 => by simp [ev]
  | k + 1 => by
    rw [List.replicate_succ, List.cons_append, ev, ev_zeros x k, Int.pow_succ, Int.mul_comm]; omega
theorem ev_powLess (d : Nat) (hd : 1 ≤ d) (x : Int) : ev (powLess d) x = x ^ d - 1 := by
  rw [powLess, ev, ev_zeros, show d = (d - 1) + 1 by omega, Int.pow_succ, Int.mul_comm]
  simp only [Nat.add_sub_cancel]
  omega
theorem ones_le {n : Nat} (hn : Prm n) (d : Nat) (hd : 1 ≤ d) (rs : List Nat) (hnd : rs.Nodup) (hr : ∀ r ∈ rs, r < n ∧ r ^ d % n = 1) : rs.length ≤ d := by
  have h1 := hn.1
  have := roots_le hn d (powLess d) (rs.map fun r : Nat => (r : Int)) (by simp [powLess]; omega) (by simp [powLess, List.getLast?_cons]) (by
      rw [List.nodup_iff_pairwise_ne, List.pairwise_map]
      exact (List.nodup_iff_pairwise_ne.1 hnd).imp (fun h e => h (by omega))) (fun r hr' => by
    obtain ⟨x, hx, rfl⟩ := List.mem_map.1 hr'
    obtain ⟨a1, a2⟩ := hr x hx
    refine ⟨by omega, by omega, ?_⟩
    rw [ev_powLess d hd]
    have e : (x : Int) ^ d = ((x ^ d : Nat) : Int) := by simp
    have e2 := Nat.div_add_mod (x ^ d) n
    rw [a2] at e2
    refine ⟨((x ^ d / n : Nat) : Int), ?_⟩
    rw [e, ← Int.natCast_mul]
    omega)
  simpa using this
end Go.Proofs.YthomeenmcajmdaaGreatDoor
namespace Go.Proofs.YthomeenmcajmdaaGreatDoor
def prodL : List Nat → Nat
  | [] => 1
  | a :: l => a * prodL l
theorem prodL_perm {l l' : List Nat} (h : l.Perm l') : prodL l = prodL l' := by
  induction h with
  | nil => rfl
  | cons x _ ih => rw [prodL, prodL, ih]
  | swap x y l => rw [prodL, prodL, prodL, prodL, Nat.mul_left_comm]
  | trans _ _ h1 h2 => exact h1.trans h2
theorem prodL_map (x n : Nat) (f : Nat → Nat) : ∀ l : List Nat, prodL (l.map fun i => x * f i % n) % n = x ^ l.length * prodL (l.map f) % n
  | [] => by simp [prodL]
  | i :: l => by
    have ih := prodL_map x n f l
    rw [List.map_cons, List.map_cons, prodL, prodL, List.length_cons, Nat.pow_succ, Nat.mul_mod, ih, Nat.mod_mod, ← Nat.mul_mod]
    congr 1
    ac_rfl
theorem prm_prod {n : Nat} (hn : Prm n) : ∀ l : List Nat, n ∣ prodL l → ∃ y ∈ l, n ∣ y
  | [], h => by
    have := Nat.le_of_dvd (by decide) h
    simp [prodL] at this
    have := hn.1
    omega
  | a :: l, h => by
    rcases prm_mul hn h with h1 | h1
    · exact ⟨a, by simp, h1⟩
    · obtain ⟨y, hy, h2⟩ := prm_prod hn l h1
      exact ⟨y, by simp [hy], h2⟩
theorem mod_eq_dvd {n a b : Nat} (h : a % n = b % n) (hab : a ≤ b) : n ∣ b - a := by
  have h1 := Nat.div_add_mod a n
  have h2 := Nat.div_add_mod b n
  refine ⟨b / n - a / n, ?_⟩
  rw [Nat.mul_sub]
  omega
theorem perm_of {l L : List Nat} (h1 : l.Nodup) (h2 : L.Nodup) (h : ∀ x, x ∈ l ↔ x ∈ L) : l.Perm L := by
  rw [List.perm_iff_count]
  intro x
  rw [h1.count, h2.count]
  by_cases hx : x ∈ l
  · rw [if_pos hx, if_pos ((h x).1 hx)]
  · rw [if_neg hx, if_neg (fun hh => hx ((h x).2 hh))]
theorem prm_fermat {n x : Nat} (hn : Prm n) (h0 : 0 < x) (hx : x < n) : x ^ (n - 1) % n = 1 := by
  have hn2 := hn.1
  have hxn : ¬ n ∣ x := fun h => by have := Nat.le_of_dvd h0 h; omega
  have hM : ((List.range (n - 1)).map fun i => x * (i + 1) % n).Nodup := nodup_map_range _ _ fun i j hij hj he => by
    have h1 := mod_eq_dvd he (Nat.mul_le_mul_left x (by omega))
    rw [← Nat.mul_sub] at h1
    rcases prm_mul hn h1 with h2 | h2
    · exact hxn h2
    · have := Nat.le_of_dvd (by omega) h2; omega
  have hL : ((List.range (n - 1)).map fun i => i + 1).Nodup := nodup_map_range _ _ fun i j hij hj he => by omega
  have hsub : ∀ y ∈ (List.range (n - 1)).map (fun i => x * (i + 1) % n), y ∈ (List.range (n - 1)).map fun i => i + 1 := by
    intro y hy
    obtain ⟨i, hi, rfl⟩ := List.mem_map.1 hy
    have hi2 := List.mem_range.1 hi
    have hlt := Nat.mod_lt (x * (i + 1)) (show 0 < n by omega)
    have hpos : x * (i + 1) % n ≠ 0 := fun h => by
      rcases prm_mul hn (Nat.dvd_of_mod_eq_zero h) with h2 | h2
      · exact hxn h2
      · have := Nat.le_of_dvd (by omega) h2; omega
    exact List.mem_map.2 ⟨x * (i + 1) % n - 1, List.mem_range.2 (by omega), by omega⟩
  have hall := nodup_all _ _ hM hsub (by simp)
  have hp := prodL_perm (perm_of hM hL fun y => ⟨hsub y, hall y⟩)
  have hm := prodL_map x n (fun i => i + 1) (List.range (n - 1))
  rw [hp, List.length_range] at hm
  generalize hQ : prodL ((List.range (n - 1)).map fun i => i + 1) = Q at hm
  have hQn : ¬ n ∣ Q := fun h => by
    rw [← hQ] at h
    obtain ⟨y, hy, hd⟩ := prm_prod hn _ h
    obtain ⟨i, hi, rfl⟩ := List.mem_map.1 hy
    have := List.mem_range.1 hi
    have := Nat.le_of_dvd (by omega) hd
    omega
  have hxp : 1 ≤ x ^ (n - 1) := Nat.one_le_pow _ _ h0
  have hd := mod_eq_dvd hm (Nat.le_mul_of_pos_left Q hxp)
  rw [show x ^ (n - 1) * Q - Q = (x ^ (n - 1) - 1) * Q by rw [Nat.sub_mul, Nat.one_mul]] at hd
  rcases prm_mul hn hd with h | h
  · obtain ⟨c, hc⟩ := h
    have e : x ^ (n - 1) = 1 + n * c := by omega
    rw [e, Nat.add_mul_mod_self_left, Nat.mod_eq_of_lt (by omega)]
  · exact absurd h hQn
def Ordr (n r D : Nat) : Prop := r ^ D % n = 1 ∧ ∀ q, Prm q → q ∣ D → r ^ (D / q) % n ≠ 1
theorem ordr_one {n : Nat} (hn : 2 ≤ n) : Ordr n 1 1 := ⟨by rw [Nat.pow_one]; exact Nat.mod_eq_of_lt (by omega), fun q hq hd => by have := Nat.le_of_dvd (by decide) hd; have := hq.1; omega⟩
theorem pow_mod' (r n k : Nat) : (r % n) ^ k % n = r ^ k % n := (Nat.pow_mod r k n).symm
theorem one_of_two {n c q E : Nat} (hn : 2 ≤ n) (hq : Prm q) (h1 : c ^ q % n = 1) (h2 : c ^ E % n = 1) (hE : ¬ q ∣ E) : c % n = 1 := by
  have h1n : 1 % n = 1 := Nat.mod_eq_of_lt (by omega)
  have hq2 := hq.1
  obtain ⟨d, hd, hd1, _, hdv⟩ := least_order (n := n) (r := c) (m := q) (by omega) (by rw [h1, h1n])
  rcases hq.2 d (hdv q (by rw [h1, h1n])) with e | e
  · rw [e, Nat.pow_one, h1n] at hd1; exact hd1
  · exact absurd (e ▸ hdv E (by rw [h2, h1n])) hE
theorem ordr_mul {n a b D E : Nat} (hn : 2 ≤ n) (ha : Ordr n a D) (hb : Ordr n b E) (hc : ∀ q, Prm q → q ∣ D → ¬ q ∣ E) : Ordr n (a * b % n) (D * E) := by
  have h1n : 1 % n = 1 := Nat.mod_eq_of_lt (by omega)
  have half : ∀ {a b D E q : Nat}, Ordr n a D → Ordr n b E → (Prm q) → q ∣ D → ¬ q ∣ E → (a * b) ^ (D * E / q) % n = 1 → False := by
    intro a b D E q ha hb hq hd hE h
    obtain ⟨k, rfl⟩ := hd
    have hq0 : 0 < q := by have := hq.1; omega
    have e : q * k * E / q = k * E := by rw [Nat.mul_assoc, Nat.mul_div_cancel_left _ hq0]
    have e2 : q * k / q = k := Nat.mul_div_cancel_left _ hq0
    rw [e, Nat.mul_pow, ← pmod_mul] at h
    have hb1 : b ^ (k * E) % n = 1 := by rw [Nat.mul_comm, pow_one_mul (by rw [hb.1, h1n]) k, h1n]
    rw [hb1, Nat.mul_one, Nat.mod_mod, Nat.pow_mul] at h
    have ha1 : (a ^ k) ^ q % n = 1 := by rw [← Nat.pow_mul, Nat.mul_comm]; exact ha.1
    have := one_of_two hn hq ha1 h hE
    have h3 := ha.2 q hq (Nat.dvd_mul_right q k)
    rw [e2] at h3
    exact h3 this
  refine ⟨?_, fun q hq hd h => ?_⟩
  · rw [pow_mod', Nat.mul_pow, ← pmod_mul, pow_one_mul (by rw [ha.1, h1n]) E, Nat.mul_comm D E, pow_one_mul (by rw [hb.1, h1n]) D, h1n, Nat.mul_one, h1n]
  · rw [pow_mod'] at h
    rcases prm_mul hq hd with h1 | h1
    · exact half ha hb hq h1 (hc q hq h1) h
    · refine half hb ha hq h1 (fun h2 => hc q hq h2 h1) ?_
      rw [Nat.mul_comm b a, Nat.mul_comm E D]; exact h
theorem split_pow {q : Nat} (hq : 2 ≤ q) : ∀ D : Nat, 0 < D → ∃ e D', D = q ^ e * D' ∧ ¬ q ∣ D' := by
  intro D
  induction D using Nat.strongRecOn with
  | _ D ih =>
    intro h0
    by_cases hd : q ∣ D
    · obtain ⟨k, rfl⟩ := hd
      have hk : 0 < k := Nat.pos_of_ne_zero (by rintro rfl; simp at h0)
      have hlt : k < q * k := by have := Nat.mul_le_mul_right k hq; omega
      obtain ⟨e, D', h1, h2⟩ := ih k hlt hk
      exact ⟨e + 1, D', by rw [h1, Nat.pow_succ, Nat.mul_comm (q ^ e) q, Nat.mul_assoc], h2⟩
    · exact ⟨0, D, by simp, hd⟩
theorem ordr_pow {n q e : Nat} (hn : Prm n) (hq : Prm q) (he : 1 ≤ e) (hd : q ^ e ∣ n - 1) : ∃ r, Ordr n r (q ^ e) := by
  have hn2 := hn.1
  have hq2 := hq.1
  obtain ⟨c, hc⟩ := hd
  have hqe : 0 < q ^ e := Nat.pow_pos (by omega)
  have hc0 : 0 < c := Nat.pos_of_ne_zero (by rintro rfl; simp at hc; omega)
  have hpe : q ^ e = q * q ^ (e - 1) := by conv => lhs; rw [show e = (e - 1) + 1 by omega, Nat.pow_succ, Nat.mul_comm]
  have hd2 : (n - 1) = q * (q ^ (e - 1) * c) := by rw [hc, hpe, Nat.mul_assoc]
  have hk0 : 0 < q ^ (e - 1) * c := Nat.mul_pos (Nat.pow_pos (by omega)) hc0
  obtain ⟨x, hx0, hxn, hx⟩ : ∃ x, 0 < x ∧ x < n ∧ x ^ (q ^ (e - 1) * c) % n ≠ 1 := by
    apply Classical.byContradiction
    intro hno
    have hle := ones_le hn (q ^ (e - 1) * c) hk0 ((List.range (n - 1)).map fun i => i + 1) (nodup_map_range _ _ fun i j a b h => by omega) (fun r hr => by
      obtain ⟨i, hi, rfl⟩ := List.mem_map.1 hr
      have := List.mem_range.1 hi
      refine ⟨by omega, ?_⟩
      apply Classical.byContradiction
      intro h
      exact hno ⟨i + 1, by omega, by omega, h⟩)
    rw [List.length_map, List.length_range] at hle
    have := Nat.mul_le_mul_right (q ^ (e - 1) * c) hq2
    omega
  refine ⟨x ^ c, ?_, fun p hp hpd hone => ?_⟩
  · rw [← Nat.pow_mul, Nat.mul_comm, ← hc]; exact prm_fermat hn hx0 hxn
  · have := prm_eq hq hp (prm_pow hp e hpd)
    subst this
    rw [hpe, Nat.mul_div_cancel_left _ (by omega), ← Nat.pow_mul, Nat.mul_comm] at hone
    exact hx hone
theorem ordr_all {n : Nat} (hn : Prm n) : ∀ D : Nat, 0 < D → D ∣ n - 1 → ∃ r, Ordr n r D := by
  have hn2 := hn.1
  intro D
  induction D using Nat.strongRecOn with
  | _ D ih =>
    intro h0 hd
    by_cases h1 : D = 1
    · subst h1; exact ⟨1, ordr_one hn2⟩
    · obtain ⟨q, hq, hqd⟩ := prm_part D (by omega)
      have hq2 := hq.1
      obtain ⟨e, D', hD, hnd⟩ := split_pow hq2 D h0
      have he : 1 ≤ e := Nat.one_le_iff_ne_zero.2 (by rintro rfl; rw [Nat.pow_zero, Nat.one_mul] at hD; exact hnd (hD ▸ hqd))
      have hD0 : 0 < D' := Nat.pos_of_ne_zero (by rintro rfl; simp at hD; omega)
      have hqe : 2 ≤ q ^ e := Nat.le_trans hq2 (by have := Nat.pow_le_pow_right (show 0 < q by omega) he; simpa using this)
      obtain ⟨b, hb⟩ := ih D' (by rw [hD]; have := Nat.mul_le_mul_right D' hqe; omega) hD0 (Nat.dvd_trans ⟨q ^ e, by rw [hD, Nat.mul_comm]⟩ hd)
      obtain ⟨a, ha⟩ := ordr_pow hn hq he (Nat.dvd_trans ⟨D', hD⟩ hd)
      refine ⟨a * b % n, hD ▸ ordr_mul hn2 ha hb (fun p hp hpd => ?_)⟩
      have := prm_eq hq hp (prm_pow hp e hpd)
      subst this
      exact hnd
theorem prm_root {n : Nat} (hn : Prm n) (h2 : 2 < n) : ∃ r, 0 < r ∧ r < n ∧ Root n r := by
  obtain ⟨r, h1, h3⟩ := ordr_all hn (n - 1) (by omega) (Nat.dvd_refl _)
  have hR : Root n (r % n) := root_of h2 (by rw [pow_mod']; exact h1) (fun q hq hd => by rw [pow_mod']; exact h3 q hq hd)
  refine ⟨r % n, ?_, Nat.mod_lt _ (by omega), hR⟩
  have := hR.pos 1
  rw [Nat.pow_one, Nat.mod_mod] at this
  exact this
end Go.Proofs.YthomeenmcajmdaaGreatDoor
namespace Go.Proofs.YthomeenmcajmdaaGreatDoor
theorem ctz_dvd {x : Nat} (h0 : x ≠ 0) (h : x < 2 ^ 64) : 2 ^ Lib.ctz 64 x ∣ x := by
  obtain ⟨m, hm, _⟩ := Lib.ctzFrom_spec 64 x (by omega) h
  have e : Lib.ctz 64 x = Lib.ctzFrom 64 x := by simp [Lib.ctz, h0]
  rw [e]
  exact ⟨2 * m + 1, hm⟩
theorem prm_small {b : Nat} (h2 : 2 ≤ b) (h : ∀ d, d < b → 2 ≤ d → b % d ≠ 0) : Prm b := by
  refine ⟨h2, fun d hd => ?_⟩
  have hle := Nat.le_of_dvd (by omega) hd
  have h0 : d ≠ 0 := by rintro rfl; have := Nat.eq_zero_of_zero_dvd hd; omega
  by_cases e1 : d = 1
  · exact .inl e1
  · right
    apply Classical.byContradiction
    intro hne
    exact h d (by omega) (by omega) (Nat.mod_eq_zero_of_dvd hd)
theorem root_one {n x : Nat} (hn : Prm n) (hx : x < n) (h : x ^ 2 % n = 1) : x = 1 ∨ x = n - 1 := by
  have hn2 := hn.1
  have hx0 : 1 ≤ x := Nat.pos_of_ne_zero (by rintro rfl; simp at h)
  have hd : n ∣ x ^ 2 - 1 := by
    have := mod_eq_dvd (n := n) (a := 1) (b := x ^ 2) (by rw [h, Nat.mod_eq_of_lt (by omega)]) (Nat.one_le_pow _ _ hx0)
    exact this
  have e : x ^ 2 - 1 = (x - 1) * (x + 1) := by
    obtain ⟨y, rfl⟩ : ∃ y, x = y + 1 := ⟨x - 1, by omega⟩
    rw [Nat.pow_two, Nat.add_sub_cancel]
    have : (y + 1) * (y + 1) = y * (y + 1 + 1) + 1 := by rw [Nat.add_mul, Nat.one_mul, Nat.mul_add y (y + 1) 1]; omega
    omega
  rw [e] at hd
  rcases prm_mul hn hd with h1 | h1
  · left
    rcases Nat.eq_zero_or_pos (x - 1) with h2 | h2
    · omega
    · have := Nat.le_of_dvd h2 h1; omega
  · right
    have := Nat.le_of_dvd (by omega) h1
    omega
theorem stLoop_ok {n : Nat} (hn : Prm n) : ∀ (t x : Nat), x < n → x ^ 2 ^ t % n = 1 → x = 1 ∨ stLoopC n t x = true
  | 0, x, hx, h => by
    rw [Nat.pow_zero, Nat.pow_one, Nat.mod_eq_of_lt hx] at h
    exact .inl h
  | t + 1, x, hx, h => by
    have hn2 := hn.1
    have hp : powC n x 2 = x ^ 2 % n := by rw [powC, if_pos ⟨hn2, hx⟩]
    have h' : (x ^ 2 % n) ^ 2 ^ t % n = 1 := by rw [pow_mod', ← Nat.pow_mul, Nat.mul_comm, ← Nat.pow_succ]; exact h
    rw [stLoopC, hp]
    rcases stLoop_ok hn t (x ^ 2 % n) (Nat.mod_lt _ (by omega)) h' with h1 | h1
    · rcases root_one hn hx h1 with h2 | h2
      · exact .inl h2
      · right; rw [show Nat.beq x (n - 1) = true by rw [Nat.beq_eq]; exact h2, Bool.true_or]
    · right; rw [h1, Bool.or_true]
theorem stands_ok {n b : Nat} (hn : Prm n) (hn2 : n < 2 ^ 64) (hb : ¬ n ∣ b) : standsC n b = true := by
  have h2 := hn.1
  obtain ⟨m, hm⟩ := ctz_dvd (x := n - 1) (by omega) (by omega)
  unfold standsC
  generalize Lib.ctz 64 (n - 1) = t at *
  have hpos : 0 < 2 ^ t := Nat.pow_pos (by decide)
  have hdiv : (n - 1) / 2 ^ t = m := by rw [hm, Nat.mul_div_cancel_left _ hpos]
  rw [hdiv]
  have ha : b % n < n := Nat.mod_lt _ (by omega)
  have ha0 : 0 < b % n := Nat.pos_of_ne_zero fun h => hb (Nat.dvd_of_mod_eq_zero h)
  have hpc : powC n (b % n) m = (b % n) ^ m % n := by rw [powC, if_pos ⟨h2, ha⟩]
  rw [hpc]
  have hf : ((b % n) ^ m % n) ^ 2 ^ t % n = 1 := by rw [pow_mod', ← Nat.pow_mul, Nat.mul_comm, ← hm]; exact prm_fermat hn ha0 ha
  rcases stLoop_ok hn t _ (Nat.mod_lt _ (by omega)) hf with h | h
  · rw [show Nat.beq ((b % n) ^ m % n) 1 = true by rw [Nat.beq_eq]; exact h, Bool.true_or]
  · rw [h, Bool.or_true]
theorem primeCL_ok {n : Nat} (hn : Prm n) (hn2 : n < 2 ^ 64) : ∀ bs : List Nat, (∀ b ∈ bs, Prm b) → primeCL n bs = true
  | [], _ => rfl
  | b :: bs, h => by
    have hb := h b (by simp)
    rw [primeCL]
    by_cases hz : n % b = 0
    · rw [if_pos (by rw [Nat.beq_eq]; exact hz), Nat.beq_eq]
      exact (prm_eq hn hb (Nat.dvd_of_mod_eq_zero hz)).symm
    · rw [show Nat.beq (n % b) 0 = false by rw [← Bool.not_eq_true, Nat.beq_eq]; exact hz, if_neg Bool.false_ne_true, primeCL_ok hn hn2 bs (fun x hx => h x (by simp [hx])), Bool.and_true]
      refine stands_ok hn hn2 fun hd => hz ?_
      have := prm_eq hb hn hd
      rw [this]; exact Nat.mod_self _
theorem primeC_ok {n : Nat} (hn : Prm n) (hn2 : n < 2 ^ 64) : primeC n = true := by
  refine primeCL_ok hn hn2 _ fun b hb => ?_
  have : ∀ b ∈ [2, 3, 5, 7, 11, 13, 17, 19, 23, 29, 31, 37], 2 ≤ b ∧ ∀ d, d < b → 2 ≤ d → b % d ≠ 0 := by decide
  exact prm_small (this b hb).1 (this b hb).2
end Go.Proofs.YthomeenmcajmdaaGreatDoor
namespace Go.Proofs.YthomeenmcajmdaaGreatDoor
def powF (n : Nat) : Nat → Nat → Nat → Nat
  | 0, _, _ => 1 % n
  | f + 1, a, t => if Nat.beq t 0 then 1 % n else if Nat.beq (t % 2) 1 then a * powF n f (a * a % n) (t / 2) % n else powF n f (a * a % n) (t / 2)
theorem powF_eq (n : Nat) : ∀ (f a t : Nat), t < 2 ^ f → powF n f a t = a ^ t % n
  | 0, a, t, h => by
    have : t = 0 := by simpa using h
    subst this; simp [powF]
  | f + 1, a, t, h => by
    have ih := powF_eq n f (a * a % n) (t / 2) (by rw [Nat.pow_succ] at h; omega)
    have e : (a * a % n) ^ (t / 2) % n = a ^ (2 * (t / 2)) % n := by rw [pow_mod', ← Nat.pow_two, ← Nat.pow_mul]
    rw [powF]
    by_cases h0 : t = 0
    · subst h0; simp
    · rw [show Nat.beq t 0 = false by rw [← Bool.not_eq_true, Nat.beq_eq]; exact h0, if_neg Bool.false_ne_true, ih, e]
      by_cases h1 : t % 2 = 1
      · rw [if_pos (by rw [Nat.beq_eq]; exact h1), Nat.mul_mod, Nat.mod_mod, ← Nat.mul_mod]
        congr 1
        conv => rhs; rw [show t = 2 * (t / 2) + 1 by omega, Nat.pow_succ, Nat.mul_comm]
      · rw [show Nat.beq (t % 2) 1 = false by rw [← Bool.not_eq_true, Nat.beq_eq]; exact h1, if_neg Bool.false_ne_true]
        congr 2; omega
theorem stLoop_one {n : Nat} (h2 : 2 ≤ n) : ∀ (t x : Nat), x < n → stLoopC n t x = true → x ^ 2 ^ t % n = 1
  | 0, x, _, h => by simp [stLoopC] at h
  | t + 1, x, hx, h => by
    have hp : powC n x 2 = x ^ 2 % n := by rw [powC, if_pos ⟨h2, hx⟩]
    rw [stLoopC, Bool.or_eq_true, Nat.beq_eq, hp] at h
    have e : x ^ 2 ^ (t + 1) % n = (x ^ 2 % n) ^ 2 ^ t % n := by rw [pow_mod', ← Nat.pow_mul, Nat.mul_comm, ← Nat.pow_succ]
    rw [e]
    rcases h with h | h
    · have h1 : x ^ 2 % n = 1 := by
        obtain ⟨k, rfl⟩ : ∃ k, n = k + 2 := ⟨n - 2, by omega⟩
        have hx1 : x = k + 1 := by omega
        subst hx1
        have : (k + 1) ^ 2 = 1 + (k + 2) * k := by rw [Nat.pow_two, Nat.add_mul, Nat.mul_add, Nat.add_mul]; omega
        rw [this, Nat.add_mul_mod_self_left, Nat.mod_eq_of_lt (by omega)]
      rw [h1, Nat.one_pow, Nat.mod_eq_of_lt (by omega)]
    · exact stLoop_one h2 t _ (Nat.mod_lt _ (by omega)) h
theorem stands_one {n b : Nat} (h2 : 2 ≤ n) (hn2 : n < 2 ^ 64) (h : standsC n b = true) : b ^ (n - 1) % n = 1 := by
  obtain ⟨m, hm⟩ := ctz_dvd (x := n - 1) (by omega) (by omega)
  unfold standsC at h
  generalize Lib.ctz 64 (n - 1) = t at *
  have hpos : 0 < 2 ^ t := Nat.pow_pos (by decide)
  have ha : b % n < n := Nat.mod_lt _ (by omega)
  have hpc : powC n (b % n) m = (b % n) ^ m % n := by rw [powC, if_pos ⟨h2, ha⟩]
  rw [show (n - 1) / 2 ^ t = m by rw [hm, Nat.mul_div_cancel_left _ hpos], hpc, Bool.or_eq_true, Nat.beq_eq] at h
  have key : ((b % n) ^ m % n) ^ 2 ^ t % n = 1 := by
    rcases h with h | h
    · rw [h, Nat.one_pow, Nat.mod_eq_of_lt (by omega)]
    · exact stLoop_one h2 t _ (Nat.mod_lt _ (by omega)) h
  rw [pow_mod', ← Nat.pow_mul, Nat.mul_comm, ← hm, pow_mod'] at key
  exact key
theorem primeCL_all {n : Nat} : ∀ bs : List Nat, primeCL n bs = true → n ∈ bs ∨ ∀ b ∈ bs, n % b ≠ 0 ∧ standsC n b = true
  | [], _ => .inr (by simp)
  | b :: bs, h => by
    rw [primeCL] at h
    by_cases hz : n % b = 0
    · rw [if_pos (by rw [Nat.beq_eq]; exact hz), Nat.beq_eq] at h
      exact .inl (by simp [h])
    · rw [show Nat.beq (n % b) 0 = false by rw [← Bool.not_eq_true, Nat.beq_eq]; exact hz, if_neg Bool.false_ne_true, Bool.and_eq_true] at h
      rcases primeCL_all bs h.2 with h1 | h1
      · exact .inl (by simp [h1])
      · right
        intro c hc
        rcases List.mem_cons.1 hc with rfl | hc
        · exact ⟨hz, h.1⟩
        · exact h1 c hc
end Go.Proofs.YthomeenmcajmdaaGreatDoor
namespace Go.Proofs.YthomeenmcajmdaaGreatDoor
theorem beq_no {a b : Nat} (h : a ≠ b) : Nat.beq a b = false := by rw [← Bool.not_eq_true, Nat.beq_eq]; exact h
def ordF (q : Nat) : Nat → Nat → Nat → Nat
  | 0, _, d => d
  | f + 1, x, d => if Nat.beq x 1 then d else ordF q f (2 * x % q) (d + 1)
theorem ordF_min (q : Nat) : ∀ (f x d : Nat), x = 2 ^ d % q → (∀ e, 0 < e → e < d → 2 ^ e % q ≠ 1) → ∀ e, 0 < e → e < ordF q f x d → 2 ^ e % q ≠ 1
  | 0, x, d, _, h, e, h0, h1 => h e h0 (by simpa [ordF] using h1)
  | f + 1, x, d, hx, h, e, h0, h1 => by
    rw [ordF] at h1
    by_cases hx1 : x = 1
    · rw [if_pos (by rw [Nat.beq_eq]; exact hx1)] at h1
      exact h e h0 h1
    · rw [beq_no hx1, if_neg Bool.false_ne_true] at h1
      refine ordF_min q f _ (d + 1) ?_ (fun e' a b => ?_) e h0 h1
      · rw [hx, Nat.pow_succ, Nat.mul_comm (2 ^ d), Nat.mul_mod, Nat.mod_mod, ← Nat.mul_mod]
      · by_cases he : e' = d
        · rw [he, ← hx]; exact hx1
        · exact h e' a (by omega)
def dividesB (n : Nat) : List Nat → Bool
  | [] => false
  | b :: bs => Nat.beq (n % b) 0 || dividesB n bs
theorem dividesB_no {m : Nat} : ∀ bs : List Nat, (∀ b ∈ bs, m % b ≠ 0) → dividesB m bs = false
  | [], _ => rfl
  | b :: bs, h => by rw [dividesB, beq_no (h b (by simp)), dividesB_no bs (fun c hc => h c (by simp [hc]))]; rfl
def candB (q m : Nat) : Bool := dividesB m [2, 3, 5, 7, 11, 13, 17, 19, 23, 29, 31, 37] || !Nat.beq (powF (q * m) 24 2 (q * m - 1)) 1 || !primeC (q * m)
def runK (q D : Nat) : Nat → Nat → Bool
  | 0, _ => true
  | f + 1, m => candB q m && runK q D f (m + D)
theorem runK_spec {q D : Nat} : ∀ (f m : Nat), runK q D f m = true → ∀ j, j < f → candB q (m + j * D) = true
  | 0, m, _, j, h => by omega
  | f + 1, m, h, j, hj => by
    rw [runK, Bool.and_eq_true] at h
    cases j with
    | zero => simpa using h.1
    | succ j =>
      have := runK_spec f (m + D) h.2 j (by omega)
      rw [show m + (j + 1) * D = m + D + j * D by rw [Nat.add_mul]; omega]
      exact this
def ordQ (q D : Nat) : Bool := Nat.ble 1 D && Nat.beq (ordF q 4096 2 1) D && Nat.beq (powF q 24 2 D) 1 && Nat.ble D 4096
theorem row_no {q D m : Nat} (hq : Prm q) (h41 : 41 ≤ q) (hord : ordQ q D = true) (hrun : ∀ j, j < 16777216 / (q * D) + 1 → candB q (q + j * D) = true) (hm : q ≤ m) (hn : q * m < 16777216) (hpc : primeC (q * m) = true) : False := by
  simp only [ordQ, Bool.and_eq_true, Nat.beq_eq, Nat.ble_eq] at hord
  obtain ⟨⟨⟨d1, d2⟩, d3⟩, d4⟩ := hord
  rw [powF_eq q 24 2 D (by omega)] at d3
  have hbig : 41 * 41 ≤ q * m := Nat.mul_le_mul h41 (by omega)
  have h1q : 1 % q = 1 := Nat.mod_eq_of_lt (by omega)
  obtain ⟨n, en⟩ : ∃ n, q * m = n := ⟨_, rfl⟩
  have hall : ∀ b ∈ [2, 3, 5, 7, 11, 13, 17, 19, 23, 29, 31, 37], n % b ≠ 0 ∧ standsC n b = true := by
    rw [en] at hpc
    rcases primeCL_all _ hpc with h | h
    · exfalso; simp at h; omega
    · exact h
  have p2 := stands_one (n := n) (b := 2) (by omega) (by omega) (hall 2 (by simp)).2
  have pq : 2 ^ (n - 1) % q = 1 := by
    have := Nat.mod_mod_of_dvd (2 ^ (n - 1)) (show q ∣ n from ⟨m, en.symm⟩)
    rw [← this, p2, h1q]
  have pf := prm_fermat hq (x := 2) (by omega) (by omega)
  have pm : 2 ^ (m - 1) % q = 1 := by
    have e : n - 1 = (q - 1) * m + (m - 1) := by
      obtain ⟨k, rfl⟩ : ∃ k, q = k + 1 := ⟨q - 1, by omega⟩
      rw [← en, Nat.add_mul, Nat.add_sub_cancel]; omega
    rw [e, pow_add_one (pow_one_mul (by rw [pf, h1q]) m)] at pq
    exact pq
  obtain ⟨d, hd, hd1, hmin, hdv⟩ := least_order (n := q) (r := 2) (m := D) (by omega) (by rw [d3, h1q])
  have hdD : d = D := by
    have a1 := hmin D (by omega) (by rw [d3, h1q])
    have a2 := ordF_min q 4096 2 1 (by rw [Nat.pow_one, Nat.mod_eq_of_lt (by omega)]) (fun e a b => by omega) d hd
    rw [d2] at a2
    rcases Nat.lt_or_ge d D with h | h
    · exact absurd (by rw [hd1, h1q]) (a2 h)
    · omega
  subst hdD
  obtain ⟨x, hx⟩ := hdv (m - 1) (by rw [pm, h1q])
  obtain ⟨y, hy⟩ := hdv (q - 1) (by rw [pf, h1q])
  have hxy : y ≤ x := by
    apply Classical.byContradiction
    intro h
    have := Nat.mul_le_mul_left d (show x + 1 ≤ y by omega)
    rw [Nat.mul_add, Nat.mul_one] at this
    omega
  have hmj : m = q + (x - y) * d := by rw [Nat.sub_mul, Nat.mul_comm x, Nat.mul_comm y]; have := Nat.mul_le_mul_left d hxy; omega
  have hj : x - y < 16777216 / (q * d) + 1 := by
    refine Nat.lt_succ_of_le ((Nat.le_div_iff_mul_le (Nat.mul_pos (by omega) hd)).2 ?_)
    have h1 : q * ((x - y) * d) ≤ q * m := Nat.mul_le_mul_left q (by omega)
    rw [Nat.mul_left_comm]
    omega
  have hc := hrun (x - y) hj
  rw [← hmj, candB, hpc, en, dividesB_no _ (fun b hb h => (hall b hb).1 (by rw [← en, Nat.mul_mod, h, Nat.mul_zero, Nat.zero_mod])), powF_eq n 24 2 (n - 1) (by omega), p2] at hc
  simp at hc
end Go.Proofs.YthomeenmcajmdaaGreatDoor
namespace Go.Proofs.YthomeenmcajmdaaGreatDoor
set_option maxRecDepth 100000
def belowT0_0 : List (Nat × Nat × Nat × Nat) := [(41, 20, 2000, 41)]
theorem belowT0_0_ok : (belowT0_0.all fun r => runK r.1 r.2.1 r.2.2.1 r.2.2.2) = true := by decide +kernel
def belowT0_1 : List (Nat × Nat × Nat × Nat) := [(41, 20, 2000, 160041)]
theorem belowT0_1_ok : (belowT0_1.all fun r => runK r.1 r.2.1 r.2.2.1 r.2.2.2) = true := by decide +kernel
def belowT0_2 : List (Nat × Nat × Nat × Nat) := [(41, 20, 2000, 320041)]
theorem belowT0_2_ok : (belowT0_2.all fun r => runK r.1 r.2.1 r.2.2.1 r.2.2.2) = true := by decide +kernel
def belowT0_3 : List (Nat × Nat × Nat × Nat) := [(43, 14, 2000, 49589)]
theorem belowT0_3_ok : (belowT0_3.all fun r => runK r.1 r.2.1 r.2.2.1 r.2.2.2) = true := by decide +kernel
def belowT0_4 : List (Nat × Nat × Nat × Nat) := [(43, 14, 2000, 161589)]
theorem belowT0_4_ok : (belowT0_4.all fun r => runK r.1 r.2.1 r.2.2.1 r.2.2.2) = true := by decide +kernel
def belowT0_5 : List (Nat × Nat × Nat × Nat) := [(43, 14, 2000, 273589)]
theorem belowT0_5_ok : (belowT0_5.all fun r => runK r.1 r.2.1 r.2.2.1 r.2.2.2) = true := by decide +kernel
def belowT0_6 : List (Nat × Nat × Nat × Nat) := [(43, 14, 331, 385589), (47, 23, 1669, 47)]
theorem belowT0_6_ok : (belowT0_6.all fun r => runK r.1 r.2.1 r.2.2.1 r.2.2.2) = true := by decide +kernel
def belowT0_7 : List (Nat × Nat × Nat × Nat) := [(47, 23, 2000, 176434)]
theorem belowT0_7_ok : (belowT0_7.all fun r => runK r.1 r.2.1 r.2.2.1 r.2.2.2) = true := by decide +kernel
def belowT0_8 : List (Nat × Nat × Nat × Nat) := [(53, 52, 2000, 7749)]
theorem belowT0_8_ok : (belowT0_8.all fun r => runK r.1 r.2.1 r.2.2.1 r.2.2.2) = true := by decide +kernel
def belowT0_9 : List (Nat × Nat × Nat × Nat) := [(59, 58, 2000, 119539)]
theorem belowT0_9_ok : (belowT0_9.all fun r => runK r.1 r.2.1 r.2.2.1 r.2.2.2) = true := by decide +kernel
def belowT0_10 : List (Nat × Nat × Nat × Nat) := [(67, 66, 2000, 37885)]
theorem belowT0_10_ok : (belowT0_10.all fun r => runK r.1 r.2.1 r.2.2.1 r.2.2.2) = true := by decide +kernel
def belowT0_11 : List (Nat × Nat × Nat × Nat) := [(71, 35, 1974, 167301), (73, 9, 26, 73)]
theorem belowT0_11_ok : (belowT0_11.all fun r => runK r.1 r.2.1 r.2.2.1 r.2.2.2) = true := by decide +kernel
def belowT0_12 : List (Nat × Nat × Nat × Nat) := [(73, 9, 2000, 54307)]
theorem belowT0_12_ok : (belowT0_12.all fun r => runK r.1 r.2.1 r.2.2.1 r.2.2.2) = true := by decide +kernel
def belowT0_13 : List (Nat × Nat × Nat × Nat) := [(73, 9, 2000, 126307)]
theorem belowT0_13_ok : (belowT0_13.all fun r => runK r.1 r.2.1 r.2.2.1 r.2.2.2) = true := by decide +kernel
def belowT0_14 : List (Nat × Nat × Nat × Nat) := [(73, 9, 2000, 198307)]
theorem belowT0_14_ok : (belowT0_14.all fun r => runK r.1 r.2.1 r.2.2.1 r.2.2.2) = true := by decide +kernel
def belowT0_15 : List (Nat × Nat × Nat × Nat) := [(79, 39, 957, 175150), (83, 82, 1043, 83)]
theorem belowT0_15_ok : (belowT0_15.all fun r => runK r.1 r.2.1 r.2.2.1 r.2.2.2) = true := by decide +kernel
def belowT0_16 : List (Nat × Nat × Nat × Nat) := [(89, 11, 2000, 50436)]
theorem belowT0_16_ok : (belowT0_16.all fun r => runK r.1 r.2.1 r.2.2.1 r.2.2.2) = true := by decide +kernel
def belowT0_17 : List (Nat × Nat × Nat × Nat) := [(89, 11, 2000, 138436)]
theorem belowT0_17_ok : (belowT0_17.all fun r => runK r.1 r.2.1 r.2.2.1 r.2.2.2) = true := by decide +kernel
def belowT0_18 : List (Nat × Nat × Nat × Nat) := [(97, 48, 165, 165169), (101, 100, 1662, 101), (103, 51, 173, 103)]
theorem belowT0_18_ok : (belowT0_18.all fun r => runK r.1 r.2.1 r.2.2.1 r.2.2.2) = true := by decide +kernel
def belowT0_19 : List (Nat × Nat × Nat × Nat) := [(109, 36, 2000, 54073)]
theorem belowT0_19_ok : (belowT0_19.all fun r => runK r.1 r.2.1 r.2.2.1 r.2.2.2) = true := by decide +kernel
def belowT0_20 : List (Nat × Nat × Nat × Nat) := [(113, 28, 80, 146357), (127, 7, 1920, 127)]
theorem belowT0_20_ok : (belowT0_20.all fun r => runK r.1 r.2.1 r.2.2.1 r.2.2.2) = true := by decide +kernel
def belowT0_21 : List (Nat × Nat × Nat × Nat) := [(127, 7, 2000, 55567)]
theorem belowT0_21_ok : (belowT0_21.all fun r => runK r.1 r.2.1 r.2.2.1 r.2.2.2) = true := by decide +kernel
def belowT0_22 : List (Nat × Nat × Nat × Nat) := [(127, 7, 2000, 111567)]
theorem belowT0_22_ok : (belowT0_22.all fun r => runK r.1 r.2.1 r.2.2.1 r.2.2.2) = true := by decide +kernel
def belowT0_23 : List (Nat × Nat × Nat × Nat) := [(151, 15, 2000, 9511)]
theorem belowT0_23_ok : (belowT0_23.all fun r => runK r.1 r.2.1 r.2.2.1 r.2.2.2) = true := by decide +kernel
def belowT0_24 : List (Nat × Nat × Nat × Nat) := [(157, 52, 840, 63389), (163, 162, 636, 163), (167, 83, 524, 167)]
theorem belowT0_24_ok : (belowT0_24.all fun r => runK r.1 r.2.1 r.2.2.1 r.2.2.2) = true := by decide +kernel
def belowT0_25 : List (Nat × Nat × Nat × Nat) := [(223, 37, 1824, 7993), (227, 226, 176, 227)]
theorem belowT0_25_ok : (belowT0_25.all fun r => runK r.1 r.2.1 r.2.2.1 r.2.2.2) = true := by decide +kernel
def belowT0_26 : List (Nat × Nat × Nat × Nat) := [(241, 24, 1090, 43705), (251, 50, 910, 251)]
theorem belowT0_26_ok : (belowT0_26.all fun r => runK r.1 r.2.1 r.2.2.1 r.2.2.2) = true := by decide +kernel
def belowT0_27 : List (Nat × Nat × Nat × Nat) := [(277, 92, 346, 29073), (281, 70, 853, 281), (283, 94, 631, 283), (293, 292, 170, 293)]
theorem belowT0_27_ok : (belowT0_27.all fun r => runK r.1 r.2.1 r.2.2.1 r.2.2.2) = true := by decide +kernel
def belowT0_28 : List (Nat × Nat × Nat × Nat) := [(353, 88, 305, 21121), (359, 179, 262, 359), (367, 183, 250, 367), (373, 372, 121, 373), (379, 378, 118, 379), (383, 191, 230, 383), (389, 388, 112, 389), (397, 44, 602, 397)]
theorem belowT0_28_ok : (belowT0_28.all fun r => runK r.1 r.2.1 r.2.2.1 r.2.2.2) = true := by decide +kernel
def belowT0_29 : List (Nat × Nat × Nat × Nat) := [(599, 299, 52, 13157), (601, 25, 1117, 601), (607, 303, 92, 607), (613, 612, 45, 613), (617, 154, 177, 617), (619, 618, 44, 619), (631, 45, 473, 631)]
theorem belowT0_29_ok : (belowT0_29.all fun r => runK r.1 r.2.1 r.2.2.1 r.2.2.2) = true := by decide +kernel
def belowT0_30 : List (Nat × Nat × Nat × Nat) := [(1061, 1060, 13, 3181), (1063, 531, 30, 1063), (1069, 356, 45, 1069), (1087, 543, 29, 1087), (1091, 1090, 15, 1091), (1093, 364, 43, 1093), (1097, 274, 56, 1097), (1103, 29, 525, 1103), (1109, 1108, 14, 1109), (1117, 1116, 14, 1117), (1123, 1122, 14, 1123), (1129, 564, 27, 1129), (1151, 575, 26, 1151), (1153, 288, 51, 1153), (1163, 166, 87, 1163), (1171, 1170, 13, 1171), (1181, 236, 61, 1181), (1187, 1186, 12, 1187), (1193, 298, 48, 1193), (1201, 300, 47, 1201), (1213, 1212, 12, 1213), (1217, 152, 91, 1217), (1223, 611, 23, 1223), (1229, 1228, 12, 1229), (1231, 615, 23, 1231), (1237, 1236, 11, 1237), (1249, 156, 87, 1249), (1259, 1258, 11, 1259), (1277, 1276, 11, 1277), (1279, 639, 21, 1279), (1283, 1282, 11, 1283), (1289, 161, 81, 1289), (1291, 1290, 11, 1291), (1297, 648, 20, 1297), (1301, 1300, 10, 1301), (1303, 651, 20, 1303), (1307, 1306, 10, 1307), (1319, 659, 20, 1319), (1321, 60, 212, 1321), (1327, 221, 58, 1327), (1361, 680, 19, 1361), (1367, 683, 18, 1367), (1373, 1372, 9, 1373), (1381, 1380, 9, 1381), (1399, 233, 20, 1399)]
theorem belowT0_30_ok : (belowT0_30.all fun r => runK r.1 r.2.1 r.2.2.1 r.2.2.2) = true := by decide +kernel
end Go.Proofs.YthomeenmcajmdaaGreatDoor
namespace Go.Proofs.YthomeenmcajmdaaGreatDoor
set_option maxRecDepth 100000
def belowT1_0 : List (Nat × Nat × Nat × Nat) := [(41, 20, 2000, 40041)]
theorem belowT1_0_ok : (belowT1_0.all fun r => runK r.1 r.2.1 r.2.2.1 r.2.2.2) = true := by decide +kernel
def belowT1_1 : List (Nat × Nat × Nat × Nat) := [(41, 20, 2000, 200041)]
theorem belowT1_1_ok : (belowT1_1.all fun r => runK r.1 r.2.1 r.2.2.1 r.2.2.2) = true := by decide +kernel
def belowT1_2 : List (Nat × Nat × Nat × Nat) := [(41, 20, 2000, 360041)]
theorem belowT1_2_ok : (belowT1_2.all fun r => runK r.1 r.2.1 r.2.2.1 r.2.2.2) = true := by decide +kernel
def belowT1_3 : List (Nat × Nat × Nat × Nat) := [(43, 14, 2000, 77589)]
theorem belowT1_3_ok : (belowT1_3.all fun r => runK r.1 r.2.1 r.2.2.1 r.2.2.2) = true := by decide +kernel
def belowT1_4 : List (Nat × Nat × Nat × Nat) := [(43, 14, 2000, 189589)]
theorem belowT1_4_ok : (belowT1_4.all fun r => runK r.1 r.2.1 r.2.2.1 r.2.2.2) = true := by decide +kernel
def belowT1_5 : List (Nat × Nat × Nat × Nat) := [(43, 14, 2000, 301589)]
theorem belowT1_5_ok : (belowT1_5.all fun r => runK r.1 r.2.1 r.2.2.1 r.2.2.2) = true := by decide +kernel
def belowT1_6 : List (Nat × Nat × Nat × Nat) := [(47, 23, 2000, 38434)]
theorem belowT1_6_ok : (belowT1_6.all fun r => runK r.1 r.2.1 r.2.2.1 r.2.2.2) = true := by decide +kernel
def belowT1_7 : List (Nat × Nat × Nat × Nat) := [(47, 23, 2000, 222434)]
theorem belowT1_7_ok : (belowT1_7.all fun r => runK r.1 r.2.1 r.2.2.1 r.2.2.2) = true := by decide +kernel
def belowT1_8 : List (Nat × Nat × Nat × Nat) := [(53, 52, 2000, 111749)]
theorem belowT1_8_ok : (belowT1_8.all fun r => runK r.1 r.2.1 r.2.2.1 r.2.2.2) = true := by decide +kernel
def belowT1_9 : List (Nat × Nat × Nat × Nat) := [(59, 58, 843, 235539), (61, 60, 1157, 61)]
theorem belowT1_9_ok : (belowT1_9.all fun r => runK r.1 r.2.1 r.2.2.1 r.2.2.2) = true := by decide +kernel
def belowT1_10 : List (Nat × Nat × Nat × Nat) := [(67, 66, 1222, 169885), (71, 35, 778, 71)]
theorem belowT1_10_ok : (belowT1_10.all fun r => runK r.1 r.2.1 r.2.2.1 r.2.2.2) = true := by decide +kernel
def belowT1_11 : List (Nat × Nat × Nat × Nat) := [(73, 9, 2000, 307)]
theorem belowT1_11_ok : (belowT1_11.all fun r => runK r.1 r.2.1 r.2.2.1 r.2.2.2) = true := by decide +kernel
def belowT1_12 : List (Nat × Nat × Nat × Nat) := [(73, 9, 2000, 72307)]
theorem belowT1_12_ok : (belowT1_12.all fun r => runK r.1 r.2.1 r.2.2.1 r.2.2.2) = true := by decide +kernel
def belowT1_13 : List (Nat × Nat × Nat × Nat) := [(73, 9, 2000, 144307)]
theorem belowT1_13_ok : (belowT1_13.all fun r => runK r.1 r.2.1 r.2.2.1 r.2.2.2) = true := by decide +kernel
def belowT1_14 : List (Nat × Nat × Nat × Nat) := [(73, 9, 1511, 216307), (79, 39, 489, 79)]
theorem belowT1_14_ok : (belowT1_14.all fun r => runK r.1 r.2.1 r.2.2.1 r.2.2.2) = true := by decide +kernel
def belowT1_15 : List (Nat × Nat × Nat × Nat) := [(83, 82, 1423, 85609), (89, 11, 577, 89)]
theorem belowT1_15_ok : (belowT1_15.all fun r => runK r.1 r.2.1 r.2.2.1 r.2.2.2) = true := by decide +kernel
def belowT1_16 : List (Nat × Nat × Nat × Nat) := [(89, 11, 2000, 72436)]
theorem belowT1_16_ok : (belowT1_16.all fun r => runK r.1 r.2.1 r.2.2.1 r.2.2.2) = true := by decide +kernel
def belowT1_17 : List (Nat × Nat × Nat × Nat) := [(89, 11, 2000, 160436)]
theorem belowT1_17_ok : (belowT1_17.all fun r => runK r.1 r.2.1 r.2.2.1 r.2.2.2) = true := by decide +kernel
def belowT1_18 : List (Nat × Nat × Nat × Nat) := [(103, 51, 2000, 8926)]
theorem belowT1_18_ok : (belowT1_18.all fun r => runK r.1 r.2.1 r.2.2.1 r.2.2.2) = true := by decide +kernel
def belowT1_19 : List (Nat × Nat × Nat × Nat) := [(109, 36, 777, 126073), (113, 28, 1223, 113)]
theorem belowT1_19_ok : (belowT1_19.all fun r => runK r.1 r.2.1 r.2.2.1 r.2.2.2) = true := by decide +kernel
def belowT1_20 : List (Nat × Nat × Nat × Nat) := [(127, 7, 2000, 13567)]
theorem belowT1_20_ok : (belowT1_20.all fun r => runK r.1 r.2.1 r.2.2.1 r.2.2.2) = true := by decide +kernel
def belowT1_21 : List (Nat × Nat × Nat × Nat) := [(127, 7, 2000, 69567)]
theorem belowT1_21_ok : (belowT1_21.all fun r => runK r.1 r.2.1 r.2.2.1 r.2.2.2) = true := by decide +kernel
def belowT1_22 : List (Nat × Nat × Nat × Nat) := [(127, 7, 953, 125567), (131, 130, 986, 131), (137, 68, 61, 137)]
theorem belowT1_22_ok : (belowT1_22.all fun r => runK r.1 r.2.1 r.2.2.1 r.2.2.2) = true := by decide +kernel
def belowT1_23 : List (Nat × Nat × Nat × Nat) := [(151, 15, 2000, 39511)]
theorem belowT1_23_ok : (belowT1_23.all fun r => runK r.1 r.2.1 r.2.2.1 r.2.2.2) = true := by decide +kernel
def belowT1_24 : List (Nat × Nat × Nat × Nat) := [(167, 83, 687, 43659), (173, 172, 564, 173), (179, 178, 527, 179), (181, 180, 222, 181)]
theorem belowT1_24_ok : (belowT1_24.all fun r => runK r.1 r.2.1 r.2.2.1 r.2.2.2) = true := by decide +kernel
def belowT1_25 : List (Nat × Nat × Nat × Nat) := [(227, 226, 152, 40003), (229, 76, 964, 229), (233, 29, 884, 233)]
theorem belowT1_25_ok : (belowT1_25.all fun r => runK r.1 r.2.1 r.2.2.1 r.2.2.2) = true := by decide +kernel
def belowT1_26 : List (Nat × Nat × Nat × Nat) := [(251, 50, 427, 45751), (257, 16, 1573, 257)]
theorem belowT1_26_ok : (belowT1_26.all fun r => runK r.1 r.2.1 r.2.2.1 r.2.2.2) = true := by decide +kernel
def belowT1_27 : List (Nat × Nat × Nat × Nat) := [(293, 292, 27, 49933), (307, 102, 536, 307), (311, 155, 349, 311), (313, 156, 344, 313), (317, 316, 168, 317), (331, 30, 576, 331)]
theorem belowT1_27_ok : (belowT1_27.all fun r => runK r.1 r.2.1 r.2.2.1 r.2.2.2) = true := by decide +kernel
def belowT1_28 : List (Nat × Nat × Nat × Nat) := [(397, 44, 359, 26885), (401, 200, 210, 401), (409, 204, 202, 409), (419, 418, 96, 419), (421, 420, 95, 421), (431, 43, 906, 431), (433, 72, 132, 433)]
theorem belowT1_28_ok : (belowT1_28.all fun r => runK r.1 r.2.1 r.2.2.1 r.2.2.2) = true := by decide +kernel
def belowT1_29 : List (Nat × Nat × Nat × Nat) := [(631, 45, 118, 21916), (641, 64, 409, 641), (643, 214, 122, 643), (647, 323, 81, 647), (653, 652, 40, 653), (659, 658, 39, 659), (661, 660, 39, 661), (673, 48, 520, 673), (677, 676, 37, 677), (683, 22, 595, 683)]
theorem belowT1_29_ok : (belowT1_29.all fun r => runK r.1 r.2.1 r.2.2.1 r.2.2.2) = true := by decide +kernel
def belowT1_30 : List (Nat × Nat × Nat × Nat) := [(1399, 233, 32, 6059), (1409, 704, 17, 1409), (1423, 237, 50, 1423), (1427, 1426, 9, 1427), (1429, 84, 140, 1429), (1433, 179, 66, 1433), (1439, 719, 17, 1439), (1447, 723, 17, 1447), (1451, 1450, 8, 1451), (1453, 1452, 8, 1453), (1459, 486, 24, 1459), (1471, 245, 47, 1471), (1481, 370, 31, 1481), (1483, 1482, 8, 1483), (1487, 743, 16, 1487), (1489, 744, 16, 1489), (1493, 1492, 8, 1493), (1499, 1498, 8, 1499), (1511, 755, 15, 1511), (1523, 1522, 8, 1523), (1531, 1530, 8, 1531), (1543, 771, 15, 1543), (1549, 1548, 7, 1549), (1553, 194, 56, 1553), (1559, 779, 14, 1559), (1567, 783, 14, 1567), (1571, 1570, 7, 1571), (1579, 526, 21, 1579), (1583, 791, 14, 1583), (1597, 532, 20, 1597), (1601, 400, 27, 1601), (1607, 803, 14, 1607), (1609, 201, 52, 1609), (1613, 52, 201, 1613), (1619, 1618, 7, 1619), (1621, 1620, 7, 1621), (1627, 542, 20, 1627), (1637, 1636, 7, 1637), (1657, 92, 111, 1657), (1663, 831, 13, 1663), (1667, 1666, 7, 1667), (1669, 1668, 7, 1669), (1693, 1692, 6, 1693), (1697, 848, 12, 1697), (1699, 566, 18, 1699), (1709, 244, 41, 1709), (1721, 215, 46, 1721), (1723, 574, 17, 1723), (1733, 1732, 6, 1733), (1741, 1740, 6, 1741), (1747, 1746, 6, 1747), (1753, 146, 66, 1753), (1759, 879, 11, 1759), (1777, 74, 128, 1777), (1783, 891, 11, 1783), (1787, 1786, 6, 1787), (1789, 596, 16, 1789), (1801, 25, 373, 1801), (1811, 362, 26, 1811), (1823, 911, 11, 1823)]
theorem belowT1_30_ok : (belowT1_30.all fun r => runK r.1 r.2.1 r.2.2.1 r.2.2.2) = true := by decide +kernel
end Go.Proofs.YthomeenmcajmdaaGreatDoor
namespace Go.Proofs.YthomeenmcajmdaaGreatDoor
set_option maxRecDepth 100000
def belowT2_0 : List (Nat × Nat × Nat × Nat) := [(41, 20, 2000, 80041)]
theorem belowT2_0_ok : (belowT2_0.all fun r => runK r.1 r.2.1 r.2.2.1 r.2.2.2) = true := by decide +kernel
def belowT2_1 : List (Nat × Nat × Nat × Nat) := [(41, 20, 2000, 240041)]
theorem belowT2_1_ok : (belowT2_1.all fun r => runK r.1 r.2.1 r.2.2.1 r.2.2.2) = true := by decide +kernel
def belowT2_2 : List (Nat × Nat × Nat × Nat) := [(41, 20, 461, 400041), (43, 14, 1539, 43)]
theorem belowT2_2_ok : (belowT2_2.all fun r => runK r.1 r.2.1 r.2.2.1 r.2.2.2) = true := by decide +kernel
def belowT2_3 : List (Nat × Nat × Nat × Nat) := [(43, 14, 2000, 105589)]
theorem belowT2_3_ok : (belowT2_3.all fun r => runK r.1 r.2.1 r.2.2.1 r.2.2.2) = true := by decide +kernel
def belowT2_4 : List (Nat × Nat × Nat × Nat) := [(43, 14, 2000, 217589)]
theorem belowT2_4_ok : (belowT2_4.all fun r => runK r.1 r.2.1 r.2.2.1 r.2.2.2) = true := by decide +kernel
def belowT2_5 : List (Nat × Nat × Nat × Nat) := [(43, 14, 2000, 329589)]
theorem belowT2_5_ok : (belowT2_5.all fun r => runK r.1 r.2.1 r.2.2.1 r.2.2.2) = true := by decide +kernel
def belowT2_6 : List (Nat × Nat × Nat × Nat) := [(47, 23, 2000, 84434)]
theorem belowT2_6_ok : (belowT2_6.all fun r => runK r.1 r.2.1 r.2.2.1 r.2.2.2) = true := by decide +kernel
def belowT2_7 : List (Nat × Nat × Nat × Nat) := [(47, 23, 2000, 268434)]
theorem belowT2_7_ok : (belowT2_7.all fun r => runK r.1 r.2.1 r.2.2.1 r.2.2.2) = true := by decide +kernel
def belowT2_8 : List (Nat × Nat × Nat × Nat) := [(53, 52, 1940, 215749), (59, 58, 60, 59)]
theorem belowT2_8_ok : (belowT2_8.all fun r => runK r.1 r.2.1 r.2.2.1 r.2.2.2) = true := by decide +kernel
def belowT2_9 : List (Nat × Nat × Nat × Nat) := [(61, 60, 2000, 69481)]
theorem belowT2_9_ok : (belowT2_9.all fun r => runK r.1 r.2.1 r.2.2.1 r.2.2.2) = true := by decide +kernel
def belowT2_10 : List (Nat × Nat × Nat × Nat) := [(71, 35, 2000, 27301)]
theorem belowT2_10_ok : (belowT2_10.all fun r => runK r.1 r.2.1 r.2.2.1 r.2.2.2) = true := by decide +kernel
def belowT2_11 : List (Nat × Nat × Nat × Nat) := [(73, 9, 2000, 18307)]
theorem belowT2_11_ok : (belowT2_11.all fun r => runK r.1 r.2.1 r.2.2.1 r.2.2.2) = true := by decide +kernel
def belowT2_12 : List (Nat × Nat × Nat × Nat) := [(73, 9, 2000, 90307)]
theorem belowT2_12_ok : (belowT2_12.all fun r => runK r.1 r.2.1 r.2.2.1 r.2.2.2) = true := by decide +kernel
def belowT2_13 : List (Nat × Nat × Nat × Nat) := [(73, 9, 2000, 162307)]
theorem belowT2_13_ok : (belowT2_13.all fun r => runK r.1 r.2.1 r.2.2.1 r.2.2.2) = true := by decide +kernel
def belowT2_14 : List (Nat × Nat × Nat × Nat) := [(79, 39, 2000, 19150)]
theorem belowT2_14_ok : (belowT2_14.all fun r => runK r.1 r.2.1 r.2.2.1 r.2.2.2) = true := by decide +kernel
def belowT2_15 : List (Nat × Nat × Nat × Nat) := [(89, 11, 2000, 6436)]
theorem belowT2_15_ok : (belowT2_15.all fun r => runK r.1 r.2.1 r.2.2.1 r.2.2.2) = true := by decide +kernel
def belowT2_16 : List (Nat × Nat × Nat × Nat) := [(89, 11, 2000, 94436)]
theorem belowT2_16_ok : (belowT2_16.all fun r => runK r.1 r.2.1 r.2.2.1 r.2.2.2) = true := by decide +kernel
def belowT2_17 : List (Nat × Nat × Nat × Nat) := [(89, 11, 561, 182436), (97, 48, 1439, 97)]
theorem belowT2_17_ok : (belowT2_17.all fun r => runK r.1 r.2.1 r.2.2.1 r.2.2.2) = true := by decide +kernel
def belowT2_18 : List (Nat × Nat × Nat × Nat) := [(103, 51, 1021, 110926), (107, 106, 979, 107)]
theorem belowT2_18_ok : (belowT2_18.all fun r => runK r.1 r.2.1 r.2.2.1 r.2.2.2) = true := by decide +kernel
def belowT2_19 : List (Nat × Nat × Nat × Nat) := [(113, 28, 2000, 34357)]
theorem belowT2_19_ok : (belowT2_19.all fun r => runK r.1 r.2.1 r.2.2.1 r.2.2.2) = true := by decide +kernel
def belowT2_20 : List (Nat × Nat × Nat × Nat) := [(127, 7, 2000, 27567)]
theorem belowT2_20_ok : (belowT2_20.all fun r => runK r.1 r.2.1 r.2.2.1 r.2.2.2) = true := by decide +kernel
def belowT2_21 : List (Nat × Nat × Nat × Nat) := [(127, 7, 2000, 83567)]
theorem belowT2_21_ok : (belowT2_21.all fun r => runK r.1 r.2.1 r.2.2.1 r.2.2.2) = true := by decide +kernel
def belowT2_22 : List (Nat × Nat × Nat × Nat) := [(137, 68, 1740, 4285), (139, 138, 260, 139)]
theorem belowT2_22_ok : (belowT2_22.all fun r => runK r.1 r.2.1 r.2.2.1 r.2.2.2) = true := by decide +kernel
def belowT2_23 : List (Nat × Nat × Nat × Nat) := [(151, 15, 2000, 69511)]
theorem belowT2_23_ok : (belowT2_23.all fun r => runK r.1 r.2.1 r.2.2.1 r.2.2.2) = true := by decide +kernel
def belowT2_24 : List (Nat × Nat × Nat × Nat) := [(181, 180, 293, 40141), (191, 95, 925, 191), (193, 96, 782, 193)]
theorem belowT2_24_ok : (belowT2_24.all fun r => runK r.1 r.2.1 r.2.2.1 r.2.2.2) = true := by decide +kernel
def belowT2_25 : List (Nat × Nat × Nat × Nat) := [(233, 29, 1599, 25869), (239, 119, 401, 239)]
theorem belowT2_25_ok : (belowT2_25.all fun r => runK r.1 r.2.1 r.2.2.1 r.2.2.2) = true := by decide +kernel
def belowT2_26 : List (Nat × Nat × Nat × Nat) := [(257, 16, 2000, 25425)]
theorem belowT2_26_ok : (belowT2_26.all fun r => runK r.1 r.2.1 r.2.2.1 r.2.2.2) = true := by decide +kernel
def belowT2_27 : List (Nat × Nat × Nat × Nat) := [(331, 30, 1114, 17611), (337, 21, 886, 337)]
theorem belowT2_27_ok : (belowT2_27.all fun r => runK r.1 r.2.1 r.2.2.1 r.2.2.2) = true := by decide +kernel
def belowT2_28 : List (Nat × Nat × Nat × Nat) := [(433, 72, 407, 9937), (439, 73, 524, 439), (443, 442, 86, 443), (449, 224, 167, 449), (457, 76, 484, 457), (461, 460, 80, 461), (463, 231, 157, 463), (467, 466, 78, 467), (479, 239, 17, 479)]
theorem belowT2_28_ok : (belowT2_28.all fun r => runK r.1 r.2.1 r.2.2.1 r.2.2.2) = true := by decide +kernel
def belowT2_29 : List (Nat × Nat × Nat × Nat) := [(683, 22, 522, 13773), (691, 230, 106, 691), (701, 700, 35, 701), (709, 708, 34, 709), (719, 359, 65, 719), (727, 121, 191, 727), (733, 244, 94, 733), (739, 246, 93, 739), (743, 371, 61, 743), (751, 375, 60, 751), (757, 756, 30, 757), (761, 380, 59, 761), (769, 384, 57, 769), (773, 772, 29, 773), (787, 786, 28, 787), (797, 796, 27, 797), (809, 404, 52, 809), (811, 270, 77, 811), (821, 820, 25, 821), (823, 411, 50, 823), (827, 826, 25, 827), (829, 828, 25, 829), (839, 419, 48, 839), (853, 852, 24, 853), (857, 428, 46, 857), (859, 858, 23, 859), (863, 431, 46, 863), (877, 876, 22, 877), (881, 55, 46, 881)]
theorem belowT2_29_ok : (belowT2_29.all fun r => runK r.1 r.2.1 r.2.2.1 r.2.2.2) = true := by decide +kernel
def belowT2_30 : List (Nat × Nat × Nat × Nat) := [(1831, 305, 31, 1831), (1847, 923, 10, 1847), (1861, 1860, 5, 1861), (1867, 1866, 5, 1867), (1871, 935, 10, 1871), (1873, 936, 10, 1873), (1877, 1876, 5, 1877), (1879, 939, 10, 1879), (1889, 472, 19, 1889), (1901, 1900, 5, 1901), (1907, 1906, 5, 1907), (1913, 239, 37, 1913), (1931, 1930, 5, 1931), (1933, 644, 14, 1933), (1949, 1948, 5, 1949), (1951, 975, 9, 1951), (1973, 1972, 5, 1973), (1979, 1978, 5, 1979), (1987, 1986, 5, 1987), (1993, 996, 9, 1993), (1997, 1996, 5, 1997), (1999, 333, 26, 1999), (2003, 286, 30, 2003), (2011, 402, 21, 2011), (2017, 336, 25, 2017), (2027, 2026, 5, 2027), (2029, 2028, 5, 2029), (2039, 1019, 9, 2039), (2053, 2052, 4, 2053), (2063, 1031, 8, 2063), (2069, 2068, 4, 2069), (2081, 1040, 8, 2081), (2083, 2082, 4, 2083), (2087, 1043, 8, 2087), (2089, 29, 277, 2089), (2099, 2098, 4, 2099), (2111, 1055, 8, 2111), (2113, 44, 181, 2113), (2129, 532, 15, 2129), (2131, 2130, 4, 2131), (2137, 1068, 8, 2137), (2141, 2140, 4, 2141), (2143, 51, 154, 2143), (2153, 1076, 8, 2153), (2161, 1080, 8, 2161), (2179, 726, 11, 2179), (2203, 734, 11, 2203), (2207, 1103, 7, 2207), (2213, 2212, 4, 2213), (2221, 2220, 4, 2221), (2237, 2236, 4, 2237), (2239, 1119, 7, 2239), (2243, 2242, 4, 2243), (2251, 750, 10, 2251), (2267, 2266, 4, 2267), (2269, 2268, 4, 2269), (2273, 568, 13, 2273), (2281, 190, 39, 2281), (2287, 381, 20, 2287), (2293, 2292, 4, 2293), (2297, 1148, 7, 2297), (2309, 2308, 4, 2309), (2311, 1155, 7, 2311), (2333, 2332, 4, 2333), (2339, 2338, 4, 2339), (2341, 780, 10, 2341), (2347, 782, 10, 2347), (2351, 47, 152, 2351), (2357, 2356, 4, 2357), (2371, 2370, 3, 2371), (2377, 1188, 6, 2377), (2381, 476, 15, 2381), (2383, 397, 18, 2383), (2389, 2388, 3, 2389), (2393, 598, 12, 2393), (2399, 1199, 6, 2399), (2411, 482, 15, 2411), (2417, 1208, 6, 2417), (2423, 1211, 6, 2423), (2437, 2436, 3, 2437), (2441, 305, 23, 2441), (2447, 1223, 6, 2447), (2459, 2458, 3, 2459), (2467, 2466, 3, 2467), (2473, 618, 11, 2473), (2477, 2476, 3, 2477), (2503, 1251, 6, 2503), (2521, 1260, 6, 2521), (2531, 2530, 3, 2531), (2539, 2538, 3, 2539), (2543, 1271, 6, 2543), (2549, 2548, 3, 2549), (2551, 1275, 6, 2551), (2557, 2556, 3, 2557), (2579, 2578, 3, 2579), (2591, 1295, 6, 2591), (2593, 81, 80, 2593), (2609, 1304, 5, 2609), (2617, 1308, 5, 2617), (2621, 2620, 3, 2621), (2633, 1316, 5, 2633), (2647, 1323, 5, 2647), (2657, 166, 39, 2657), (2659, 2658, 3, 2659), (2663, 1331, 5, 2663), (2671, 445, 15, 2671), (2677, 2676, 3, 2677), (2683, 2682, 3, 2683), (2687, 79, 80, 2687), (2689, 224, 28, 2689), (2693, 2692, 3, 2693), (2699, 2698, 3, 2699), (2707, 2706, 3, 2707), (2711, 1355, 5, 2711), (2713, 1356, 5, 2713), (2719, 1359, 5, 2719), (2729, 1364, 5, 2729), (2731, 26, 115, 2731)]
theorem belowT2_30_ok : (belowT2_30.all fun r => runK r.1 r.2.1 r.2.2.1 r.2.2.2) = true := by decide +kernel
end Go.Proofs.YthomeenmcajmdaaGreatDoor
namespace Go.Proofs.YthomeenmcajmdaaGreatDoor
set_option maxRecDepth 100000
def belowT3_0 : List (Nat × Nat × Nat × Nat) := [(41, 20, 2000, 120041)]
theorem belowT3_0_ok : (belowT3_0.all fun r => runK r.1 r.2.1 r.2.2.1 r.2.2.2) = true := by decide +kernel
def belowT3_1 : List (Nat × Nat × Nat × Nat) := [(41, 20, 2000, 280041)]
theorem belowT3_1_ok : (belowT3_1.all fun r => runK r.1 r.2.1 r.2.2.1 r.2.2.2) = true := by decide +kernel
def belowT3_2 : List (Nat × Nat × Nat × Nat) := [(43, 14, 2000, 21589)]
theorem belowT3_2_ok : (belowT3_2.all fun r => runK r.1 r.2.1 r.2.2.1 r.2.2.2) = true := by decide +kernel
def belowT3_3 : List (Nat × Nat × Nat × Nat) := [(43, 14, 2000, 133589)]
theorem belowT3_3_ok : (belowT3_3.all fun r => runK r.1 r.2.1 r.2.2.1 r.2.2.2) = true := by decide +kernel
def belowT3_4 : List (Nat × Nat × Nat × Nat) := [(43, 14, 2000, 245589)]
theorem belowT3_4_ok : (belowT3_4.all fun r => runK r.1 r.2.1 r.2.2.1 r.2.2.2) = true := by decide +kernel
def belowT3_5 : List (Nat × Nat × Nat × Nat) := [(43, 14, 2000, 357589)]
theorem belowT3_5_ok : (belowT3_5.all fun r => runK r.1 r.2.1 r.2.2.1 r.2.2.2) = true := by decide +kernel
def belowT3_6 : List (Nat × Nat × Nat × Nat) := [(47, 23, 2000, 130434)]
theorem belowT3_6_ok : (belowT3_6.all fun r => runK r.1 r.2.1 r.2.2.1 r.2.2.2) = true := by decide +kernel
def belowT3_7 : List (Nat × Nat × Nat × Nat) := [(47, 23, 1852, 314434), (53, 52, 148, 53)]
theorem belowT3_7_ok : (belowT3_7.all fun r => runK r.1 r.2.1 r.2.2.1 r.2.2.2) = true := by decide +kernel
def belowT3_8 : List (Nat × Nat × Nat × Nat) := [(59, 58, 2000, 3539)]
theorem belowT3_8_ok : (belowT3_8.all fun r => runK r.1 r.2.1 r.2.2.1 r.2.2.2) = true := by decide +kernel
def belowT3_9 : List (Nat × Nat × Nat × Nat) := [(61, 60, 1427, 189481), (67, 66, 573, 67)]
theorem belowT3_9_ok : (belowT3_9.all fun r => runK r.1 r.2.1 r.2.2.1 r.2.2.2) = true := by decide +kernel
def belowT3_10 : List (Nat × Nat × Nat × Nat) := [(71, 35, 2000, 97301)]
theorem belowT3_10_ok : (belowT3_10.all fun r => runK r.1 r.2.1 r.2.2.1 r.2.2.2) = true := by decide +kernel
def belowT3_11 : List (Nat × Nat × Nat × Nat) := [(73, 9, 2000, 36307)]
theorem belowT3_11_ok : (belowT3_11.all fun r => runK r.1 r.2.1 r.2.2.1 r.2.2.2) = true := by decide +kernel
def belowT3_12 : List (Nat × Nat × Nat × Nat) := [(73, 9, 2000, 108307)]
theorem belowT3_12_ok : (belowT3_12.all fun r => runK r.1 r.2.1 r.2.2.1 r.2.2.2) = true := by decide +kernel
def belowT3_13 : List (Nat × Nat × Nat × Nat) := [(73, 9, 2000, 180307)]
theorem belowT3_13_ok : (belowT3_13.all fun r => runK r.1 r.2.1 r.2.2.1 r.2.2.2) = true := by decide +kernel
def belowT3_14 : List (Nat × Nat × Nat × Nat) := [(79, 39, 2000, 97150)]
theorem belowT3_14_ok : (belowT3_14.all fun r => runK r.1 r.2.1 r.2.2.1 r.2.2.2) = true := by decide +kernel
def belowT3_15 : List (Nat × Nat × Nat × Nat) := [(89, 11, 2000, 28436)]
theorem belowT3_15_ok : (belowT3_15.all fun r => runK r.1 r.2.1 r.2.2.1 r.2.2.2) = true := by decide +kernel
def belowT3_16 : List (Nat × Nat × Nat × Nat) := [(89, 11, 2000, 116436)]
theorem belowT3_16_ok : (belowT3_16.all fun r => runK r.1 r.2.1 r.2.2.1 r.2.2.2) = true := by decide +kernel
def belowT3_17 : List (Nat × Nat × Nat × Nat) := [(97, 48, 2000, 69169)]
theorem belowT3_17_ok : (belowT3_17.all fun r => runK r.1 r.2.1 r.2.2.1 r.2.2.2) = true := by decide +kernel
def belowT3_18 : List (Nat × Nat × Nat × Nat) := [(107, 106, 501, 103881), (109, 36, 1499, 109)]
theorem belowT3_18_ok : (belowT3_18.all fun r => runK r.1 r.2.1 r.2.2.1 r.2.2.2) = true := by decide +kernel
def belowT3_19 : List (Nat × Nat × Nat × Nat) := [(113, 28, 2000, 90357)]
theorem belowT3_19_ok : (belowT3_19.all fun r => runK r.1 r.2.1 r.2.2.1 r.2.2.2) = true := by decide +kernel
def belowT3_20 : List (Nat × Nat × Nat × Nat) := [(127, 7, 2000, 41567)]
theorem belowT3_20_ok : (belowT3_20.all fun r => runK r.1 r.2.1 r.2.2.1 r.2.2.2) = true := by decide +kernel
def belowT3_21 : List (Nat × Nat × Nat × Nat) := [(127, 7, 2000, 97567)]
theorem belowT3_21_ok : (belowT3_21.all fun r => runK r.1 r.2.1 r.2.2.1 r.2.2.2) = true := by decide +kernel
def belowT3_22 : List (Nat × Nat × Nat × Nat) := [(139, 138, 615, 36019), (149, 148, 761, 149), (151, 15, 624, 151)]
theorem belowT3_22_ok : (belowT3_22.all fun r => runK r.1 r.2.1 r.2.2.1 r.2.2.2) = true := by decide +kernel
def belowT3_23 : List (Nat × Nat × Nat × Nat) := [(151, 15, 784, 99511), (157, 52, 1216, 157)]
theorem belowT3_23_ok : (belowT3_23.all fun r => runK r.1 r.2.1 r.2.2.1 r.2.2.2) = true := by decide +kernel
def belowT3_24 : List (Nat × Nat × Nat × Nat) := [(193, 96, 124, 75265), (197, 196, 435, 197), (199, 99, 852, 199), (211, 210, 379, 211), (223, 37, 210, 223)]
theorem belowT3_24_ok : (belowT3_24.all fun r => runK r.1 r.2.1 r.2.2.1 r.2.2.2) = true := by decide +kernel
def belowT3_25 : List (Nat × Nat × Nat × Nat) := [(239, 119, 189, 47958), (241, 24, 1811, 241)]
theorem belowT3_25_ok : (belowT3_25.all fun r => runK r.1 r.2.1 r.2.2.1 r.2.2.2) = true := by decide +kernel
def belowT3_26 : List (Nat × Nat × Nat × Nat) := [(257, 16, 508, 57425), (263, 131, 487, 263), (269, 268, 233, 269), (271, 135, 459, 271), (277, 92, 313, 277)]
theorem belowT3_26_ok : (belowT3_26.all fun r => runK r.1 r.2.1 r.2.2.1 r.2.2.2) = true := by decide +kernel
def belowT3_27 : List (Nat × Nat × Nat × Nat) := [(337, 21, 1485, 18943), (347, 346, 140, 347), (349, 348, 139, 349), (353, 88, 236, 353)]
theorem belowT3_27_ok : (belowT3_27.all fun r => runK r.1 r.2.1 r.2.2.1 r.2.2.2) = true := by decide +kernel
def belowT3_28 : List (Nat × Nat × Nat × Nat) := [(479, 239, 130, 4542), (487, 243, 142, 487), (491, 490, 70, 491), (499, 166, 203, 499), (503, 251, 133, 503), (509, 508, 65, 509), (521, 260, 124, 521), (523, 522, 62, 523), (541, 540, 58, 541), (547, 546, 57, 547), (557, 556, 55, 557), (563, 562, 54, 563), (569, 284, 104, 569), (571, 114, 258, 571), (577, 144, 202, 577), (587, 586, 49, 587), (593, 148, 192, 593), (599, 299, 42, 599)]
theorem belowT3_28_ok : (belowT3_28.all fun r => runK r.1 r.2.1 r.2.2.1 r.2.2.2) = true := by decide +kernel
def belowT3_29 : List (Nat × Nat × Nat × Nat) := [(881, 55, 301, 3411), (883, 882, 22, 883), (887, 443, 43, 887), (907, 906, 21, 907), (911, 91, 203, 911), (919, 153, 120, 919), (929, 464, 39, 929), (937, 117, 154, 937), (941, 940, 19, 941), (947, 946, 19, 947), (953, 68, 259, 953), (967, 483, 36, 967), (971, 194, 90, 971), (977, 488, 36, 977), (983, 491, 35, 983), (991, 495, 35, 991), (997, 332, 51, 997), (1009, 504, 33, 1009), (1013, 92, 181, 1013), (1019, 1018, 17, 1019), (1021, 340, 49, 1021), (1031, 515, 32, 1031), (1033, 258, 63, 1033), (1039, 519, 32, 1039), (1049, 262, 62, 1049), (1051, 350, 46, 1051), (1061, 1060, 2, 1061)]
theorem belowT3_29_ok : (belowT3_29.all fun r => runK r.1 r.2.1 r.2.2.1 r.2.2.2) = true := by decide +kernel
def belowT3_30 : List (Nat × Nat × Nat × Nat) := [(2731, 26, 122, 5721), (2741, 2740, 3, 2741), (2749, 916, 7, 2749), (2753, 1376, 5, 2753), (2767, 461, 14, 2767), (2777, 1388, 5, 2777), (2789, 2788, 3, 2789), (2791, 465, 13, 2791), (2797, 2796, 3, 2797), (2801, 1400, 5, 2801), (2803, 2802, 3, 2803), (2819, 2818, 3, 2819), (2833, 118, 51, 2833), (2837, 2836, 3, 2837), (2843, 2842, 3, 2843), (2851, 2850, 3, 2851), (2857, 102, 58, 2857), (2861, 2860, 3, 2861), (2879, 1439, 5, 2879), (2887, 1443, 5, 2887), (2897, 1448, 4, 2897), (2903, 1451, 4, 2903), (2909, 2908, 2, 2909), (2917, 972, 6, 2917), (2927, 1463, 4, 2927), (2939, 2938, 2, 2939), (2953, 492, 12, 2953), (2957, 2956, 2, 2957), (2963, 2962, 2, 2963), (2969, 371, 16, 2969), (2971, 110, 52, 2971), (2999, 1499, 4, 2999), (3001, 1500, 4, 3001), (3011, 3010, 2, 3011), (3019, 3018, 2, 3019), (3023, 1511, 4, 3023), (3037, 3036, 2, 3037), (3041, 1520, 4, 3041), (3049, 762, 8, 3049), (3061, 204, 27, 3061), (3067, 3066, 2, 3067), (3079, 1539, 4, 3079), (3083, 3082, 2, 3083), (3089, 772, 8, 3089), (3109, 444, 13, 3109), (3119, 1559, 4, 3119), (3121, 156, 35, 3121), (3137, 784, 7, 3137), (3163, 1054, 6, 3163), (3167, 1583, 4, 3167), (3169, 1584, 4, 3169), (3181, 1060, 5, 3181), (3187, 3186, 2, 3187), (3191, 55, 96, 3191), (3203, 3202, 2, 3203), (3209, 1604, 4, 3209), (3217, 804, 7, 3217), (3221, 644, 9, 3221), (3229, 1076, 5, 3229), (3251, 650, 8, 3251), (3253, 3252, 2, 3253), (3257, 407, 13, 3257), (3259, 1086, 5, 3259), (3271, 545, 10, 3271), (3299, 3298, 2, 3299), (3301, 660, 8, 3301), (3307, 3306, 2, 3307), (3313, 828, 7, 3313), (3319, 1659, 4, 3319), (3323, 3322, 2, 3323), (3329, 1664, 4, 3329), (3331, 222, 23, 3331), (3343, 557, 10, 3343), (3347, 3346, 2, 3347), (3359, 1679, 3, 3359), (3361, 168, 30, 3361), (3371, 3370, 2, 3371), (3373, 1124, 5, 3373), (3389, 484, 11, 3389), (3391, 113, 44, 3391), (3407, 1703, 3, 3407), (3413, 3412, 2, 3413), (3433, 1716, 3, 3433), (3449, 431, 12, 3449), (3457, 576, 9, 3457), (3461, 3460, 2, 3461), (3463, 577, 9, 3463), (3467, 3466, 2, 3467), (3469, 3468, 2, 3469), (3491, 3490, 2, 3491), (3499, 3498, 2, 3499), (3511, 1755, 3, 3511), (3517, 3516, 2, 3517), (3527, 1763, 3, 3527), (3529, 882, 6, 3529), (3533, 3532, 2, 3533), (3539, 3538, 2, 3539), (3541, 236, 21, 3541), (3547, 3546, 2, 3547), (3557, 3556, 2, 3557), (3559, 1779, 3, 3559), (3571, 3570, 2, 3571), (3581, 3580, 2, 3581), (3583, 1791, 3, 3583), (3593, 1796, 3, 3593), (3607, 601, 8, 3607), (3613, 3612, 2, 3613), (3617, 1808, 3, 3617), (3623, 1811, 3, 3623), (3631, 605, 8, 3631), (3637, 3636, 2, 3637), (3643, 3642, 2, 3643), (3659, 3658, 2, 3659), (3671, 1835, 3, 3671), (3673, 918, 5, 3673), (3677, 3676, 2, 3677), (3691, 3690, 2, 3691), (3697, 1848, 3, 3697), (3701, 3700, 2, 3701), (3709, 3708, 2, 3709), (3719, 1859, 3, 3719), (3727, 1863, 3, 3727), (3733, 3732, 2, 3733), (3739, 534, 9, 3739), (3761, 188, 24, 3761), (3767, 1883, 3, 3767), (3769, 1884, 3, 3769), (3779, 3778, 2, 3779), (3793, 1896, 3, 3793), (3797, 3796, 2, 3797), (3803, 3802, 2, 3803), (3821, 764, 6, 3821), (3823, 637, 7, 3823), (3833, 958, 5, 3833), (3847, 1923, 3, 3847), (3851, 3850, 2, 3851), (3853, 3852, 2, 3853), (3863, 1931, 3, 3863), (3877, 3876, 2, 3877), (3881, 388, 12, 3881), (3889, 648, 7, 3889), (3907, 3906, 2, 3907), (3911, 1955, 3, 3911), (3917, 3916, 2, 3917), (3919, 1959, 3, 3919), (3923, 3922, 2, 3923), (3929, 1964, 3, 3929), (3931, 3930, 2, 3931), (3943, 219, 20, 3943), (3947, 3946, 2, 3947), (3967, 1983, 3, 3967), (3989, 3988, 2, 3989), (4001, 1000, 5, 4001), (4003, 4002, 2, 4003), (4007, 2003, 3, 4007), (4013, 4012, 2, 4013), (4019, 4018, 2, 4019), (4021, 4020, 2, 4021), (4027, 1342, 4, 4027), (4049, 506, 9, 4049), (4051, 50, 83, 4051), (4057, 169, 25, 4057), (4073, 2036, 3, 4073), (4079, 2039, 3, 4079), (4091, 4090, 2, 4091), (4093, 4092, 2, 4093)]
theorem belowT3_30_ok : (belowT3_30.all fun r => runK r.1 r.2.1 r.2.2.1 r.2.2.2) = true := by decide +kernel
end Go.Proofs.YthomeenmcajmdaaGreatDoor
namespace Go.Proofs.YthomeenmcajmdaaGreatDoor
def pieceB (r : Nat × Nat × Nat × Nat) : Bool := runK r.1 r.2.1 r.2.2.1 r.2.2.2
theorem piece_app {xs ys : List (Nat × Nat × Nat × Nat)} (h : (xs.all fun r => runK r.1 r.2.1 r.2.2.1 r.2.2.2) = true) (h' : ys.all pieceB = true) : (xs ++ ys).all pieceB = true := by
  rw [List.all_append, Bool.and_eq_true]; exact ⟨h, h'⟩
def seqB (q D : Nat) : Nat → Nat → List (Nat × Nat × Nat × Nat) → Bool
  | _, n, [] => Nat.beq n 0
  | m, n, r :: rs => Nat.beq r.1 q && (Nat.beq r.2.1 D && (Nat.beq r.2.2.2 m && seqB q D (m + r.2.2.1 * D) (n - r.2.2.1) rs))
theorem seqB_spec {q D : Nat} : ∀ (rs : List (Nat × Nat × Nat × Nat)) (m n : Nat), (∀ r ∈ rs, pieceB r = true) → seqB q D m n rs = true → ∀ j, j < n → candB q (m + j * D) = true
  | [], m, n, _, h, j, hj => by
    rw [seqB, Nat.beq_eq] at h; omega
  | r :: rs, m, n, hr, h, j, hj => by
    simp only [seqB, Bool.and_eq_true, Nat.beq_eq] at h
    obtain ⟨h1, h2, h3, h4⟩ := h
    by_cases hjf : j < r.2.2.1
    · have := runK_spec _ _ (hr r (by simp)) j hjf
      rw [h1, h2, h3] at this
      exact this
    · have := seqB_spec rs _ _ (fun x hx => hr x (by simp [hx])) h4 (j - r.2.2.1) (by omega)
      obtain ⟨d, hd⟩ : ∃ d, j = r.2.2.1 + d := ⟨j - r.2.2.1, by omega⟩
      rw [hd, Nat.add_sub_cancel_left] at this
      rw [hd, Nat.add_mul, ← Nat.add_assoc]
      exact this
def rowOk (q : Nat) : List (Nat × Nat × Nat × Nat) → Bool
  | [] => false
  | r :: rs => ordQ q r.2.1 && seqB q r.2.1 q (16777216 / (q * r.2.1) + 1) (r :: rs)
def fromB (f : Nat → Bool) : Nat → Nat → Bool
  | 0, _ => true
  | n + 1, k => f k && fromB f n (k + 1)
theorem fromB_spec {f : Nat → Bool} : ∀ {n k : Nat}, fromB f n k = true → ∀ j, k ≤ j → j < k + n → f j = true
  | 0, k, _, j, h1, h2 => by omega
  | n + 1, k, h, j, h1, h2 => by
    rw [fromB, Bool.and_eq_true] at h
    by_cases e : j = k
    · rw [e]; exact h.1
    · exact fromB_spec h.2 j (by omega) (by omega)
set_option maxRecDepth 100000
def belowAll : List (Nat × Nat × Nat × Nat) := belowT0_0 ++ (belowT1_0 ++ (belowT2_0 ++ (belowT3_0 ++ (belowT0_1 ++ (belowT1_1 ++ (belowT2_1 ++ (belowT3_1 ++ (belowT0_2 ++ (belowT1_2 ++ (belowT2_2 ++ (belowT3_2 ++ (belowT0_3 ++ (belowT1_3 ++ (belowT2_3 ++ (belowT3_3 ++ (belowT0_4 ++ (belowT1_4 ++ (belowT2_4 ++ (belowT3_4 ++ (belowT0_5 ++ (belowT1_5 ++ (belowT2_5 ++ (belowT3_5 ++ (belowT0_6 ++ (belowT1_6 ++ (belowT2_6 ++ (belowT3_6 ++ (belowT0_7 ++ (belowT1_7 ++ (belowT2_7 ++ (belowT3_7 ++ (belowT0_8 ++ (belowT1_8 ++ (belowT2_8 ++ (belowT3_8 ++ (belowT0_9 ++ (belowT1_9 ++ (belowT2_9 ++ (belowT3_9 ++ (belowT0_10 ++ (belowT1_10 ++ (belowT2_10 ++ (belowT3_10 ++ (belowT0_11 ++ (belowT1_11 ++ (belowT2_11 ++ (belowT3_11 ++ (belowT0_12 ++ (belowT1_12 ++ (belowT2_12 ++ (belowT3_12 ++ (belowT0_13 ++ (belowT1_13 ++ (belowT2_13 ++ (belowT3_13 ++ (belowT0_14 ++ (belowT1_14 ++ (belowT2_14 ++ (belowT3_14 ++ (belowT0_15 ++ (belowT1_15 ++ (belowT2_15 ++ (belowT3_15 ++ (belowT0_16 ++ (belowT1_16 ++ (belowT2_16 ++ (belowT3_16 ++ (belowT0_17 ++ (belowT1_17 ++ (belowT2_17 ++ (belowT3_17 ++ (belowT0_18 ++ (belowT1_18 ++ (belowT2_18 ++ (belowT3_18 ++ (belowT0_19 ++ (belowT1_19 ++ (belowT2_19 ++ (belowT3_19 ++ (belowT0_20 ++ (belowT1_20 ++ (belowT2_20 ++ (belowT3_20 ++ (belowT0_21 ++ (belowT1_21 ++ (belowT2_21 ++ (belowT3_21 ++ (belowT0_22 ++ (belowT1_22 ++ (belowT2_22 ++ (belowT3_22 ++ (belowT0_23 ++ (belowT1_23 ++ (belowT2_23 ++ (belowT3_23 ++ (belowT0_24 ++ (belowT1_24 ++ (belowT2_24 ++ (belowT3_24 ++ (belowT0_25 ++ (belowT1_25 ++ (belowT2_25 ++ (belowT3_25 ++ (belowT0_26 ++ (belowT1_26 ++ (belowT2_26 ++ (belowT3_26 ++ (belowT0_27 ++ (belowT1_27 ++ (belowT2_27 ++ (belowT3_27 ++ (belowT0_28 ++ (belowT1_28 ++ (belowT2_28 ++ (belowT3_28 ++ (belowT0_29 ++ (belowT1_29 ++ (belowT2_29 ++ (belowT3_29 ++ (belowT0_30 ++ (belowT1_30 ++ (belowT2_30 ++ (belowT3_30 ++ [])))))))))))))))))))))))))))))))))))))))))))))))))))))))))))))))))))))))))))))))))))))))))))))))))))))))))))))))))))))))))))
theorem belowAll_ok : belowAll.all pieceB = true := piece_app belowT0_0_ok (piece_app belowT1_0_ok (piece_app belowT2_0_ok (piece_app belowT3_0_ok (piece_app belowT0_1_ok (piece_app belowT1_1_ok (piece_app belowT2_1_ok (piece_app belowT3_1_ok (piece_app belowT0_2_ok (piece_app belowT1_2_ok (piece_app belowT2_2_ok (piece_app belowT3_2_ok (piece_app belowT0_3_ok (piece_app belowT1_3_ok (piece_app belowT2_3_ok (piece_app belowT3_3_ok (piece_app belowT0_4_ok (piece_app belowT1_4_ok (piece_app belowT2_4_ok (piece_app belowT3_4_ok (piece_app belowT0_5_ok (piece_app belowT1_5_ok (piece_app belowT2_5_ok (piece_app belowT3_5_ok (piece_app belowT0_6_ok (piece_app belowT1_6_ok (piece_app belowT2_6_ok (piece_app belowT3_6_ok (piece_app belowT0_7_ok (piece_app belowT1_7_ok (piece_app belowT2_7_ok (piece_app belowT3_7_ok (piece_app belowT0_8_ok (piece_app belowT1_8_ok (piece_app belowT2_8_ok (piece_app belowT3_8_ok (piece_app belowT0_9_ok (piece_app belowT1_9_ok (piece_app belowT2_9_ok (piece_app belowT3_9_ok (piece_app belowT0_10_ok (piece_app belowT1_10_ok (piece_app belowT2_10_ok (piece_app belowT3_10_ok (piece_app belowT0_11_ok (piece_app belowT1_11_ok (piece_app belowT2_11_ok (piece_app belowT3_11_ok (piece_app belowT0_12_ok (piece_app belowT1_12_ok (piece_app belowT2_12_ok (piece_app belowT3_12_ok (piece_app belowT0_13_ok (piece_app belowT1_13_ok (piece_app belowT2_13_ok (piece_app belowT3_13_ok (piece_app belowT0_14_ok (piece_app belowT1_14_ok (piece_app belowT2_14_ok (piece_app belowT3_14_ok (piece_app belowT0_15_ok (piece_app belowT1_15_ok (piece_app belowT2_15_ok (piece_app belowT3_15_ok (piece_app belowT0_16_ok (piece_app belowT1_16_ok (piece_app belowT2_16_ok (piece_app belowT3_16_ok (piece_app belowT0_17_ok (piece_app belowT1_17_ok (piece_app belowT2_17_ok (piece_app belowT3_17_ok (piece_app belowT0_18_ok (piece_app belowT1_18_ok (piece_app belowT2_18_ok (piece_app belowT3_18_ok (piece_app belowT0_19_ok (piece_app belowT1_19_ok (piece_app belowT2_19_ok (piece_app belowT3_19_ok (piece_app belowT0_20_ok (piece_app belowT1_20_ok (piece_app belowT2_20_ok (piece_app belowT3_20_ok (piece_app belowT0_21_ok (piece_app belowT1_21_ok (piece_app belowT2_21_ok (piece_app belowT3_21_ok (piece_app belowT0_22_ok (piece_app belowT1_22_ok (piece_app belowT2_22_ok (piece_app belowT3_22_ok (piece_app belowT0_23_ok (piece_app belowT1_23_ok (piece_app belowT2_23_ok (piece_app belowT3_23_ok (piece_app belowT0_24_ok (piece_app belowT1_24_ok (piece_app belowT2_24_ok (piece_app belowT3_24_ok (piece_app belowT0_25_ok (piece_app belowT1_25_ok (piece_app belowT2_25_ok (piece_app belowT3_25_ok (piece_app belowT0_26_ok (piece_app belowT1_26_ok (piece_app belowT2_26_ok (piece_app belowT3_26_ok (piece_app belowT0_27_ok (piece_app belowT1_27_ok (piece_app belowT2_27_ok (piece_app belowT3_27_ok (piece_app belowT0_28_ok (piece_app belowT1_28_ok (piece_app belowT2_28_ok (piece_app belowT3_28_ok (piece_app belowT0_29_ok (piece_app belowT1_29_ok (piece_app belowT2_29_ok (piece_app belowT3_29_ok (piece_app belowT0_30_ok (piece_app belowT1_30_ok (piece_app belowT2_30_ok (piece_app belowT3_30_ok (rfl))))))))))))))))))))))))))))))))))))))))))))))))))))))))))))))))))))))))))))))))))))))))))))))))))))))))))))))))))))))))))))
def checkQ (q : Nat) : Bool := !primeC q || rowOk q (belowAll.filter fun r => Nat.beq r.1 q)
theorem checkQ_0 : fromB checkQ 254 41 = true := by decide +kernel
theorem checkQ_1 : fromB checkQ 254 295 = true := by decide +kernel
theorem checkQ_2 : fromB checkQ 254 549 = true := by decide +kernel
theorem checkQ_3 : fromB checkQ 254 803 = true := by decide +kernel
theorem checkQ_4 : fromB checkQ 254 1057 = true := by decide +kernel
theorem checkQ_5 : fromB checkQ 254 1311 = true := by decide +kernel
theorem checkQ_6 : fromB checkQ 254 1565 = true := by decide +kernel
theorem checkQ_7 : fromB checkQ 254 1819 = true := by decide +kernel
theorem checkQ_8 : fromB checkQ 254 2073 = true := by decide +kernel
theorem checkQ_9 : fromB checkQ 254 2327 = true := by decide +kernel
theorem checkQ_10 : fromB checkQ 254 2581 = true := by decide +kernel
theorem checkQ_11 : fromB checkQ 254 2835 = true := by decide +kernel
theorem checkQ_12 : fromB checkQ 254 3089 = true := by decide +kernel
theorem checkQ_13 : fromB checkQ 254 3343 = true := by decide +kernel
theorem checkQ_14 : fromB checkQ 254 3597 = true := by decide +kernel
theorem checkQ_15 : fromB checkQ 245 3851 = true := by decide +kernel
theorem checkQ_all {q : Nat} (h41 : 41 ≤ q) (h : q < 4096) : checkQ q = true := by
  rcases (by omega : (41 ≤ q ∧ q < 295) ∨ (295 ≤ q ∧ q < 549) ∨ (549 ≤ q ∧ q < 803) ∨ (803 ≤ q ∧ q < 1057) ∨ (1057 ≤ q ∧ q < 1311) ∨ (1311 ≤ q ∧ q < 1565) ∨ (1565 ≤ q ∧ q < 1819) ∨ (1819 ≤ q ∧ q < 2073) ∨ (2073 ≤ q ∧ q < 2327) ∨ (2327 ≤ q ∧ q < 2581) ∨ (2581 ≤ q ∧ q < 2835) ∨ (2835 ≤ q ∧ q < 3089) ∨ (3089 ≤ q ∧ q < 3343) ∨ (3343 ≤ q ∧ q < 3597) ∨ (3597 ≤ q ∧ q < 3851) ∨ (3851 ≤ q ∧ q < 4096)) with h | h | h | h | h | h | h | h | h | h | h | h | h | h | h | h
  · exact fromB_spec checkQ_0 q (by omega) (by omega)
  · exact fromB_spec checkQ_1 q (by omega) (by omega)
  · exact fromB_spec checkQ_2 q (by omega) (by omega)
  · exact fromB_spec checkQ_3 q (by omega) (by omega)
  · exact fromB_spec checkQ_4 q (by omega) (by omega)
  · exact fromB_spec checkQ_5 q (by omega) (by omega)
  · exact fromB_spec checkQ_6 q (by omega) (by omega)
  · exact fromB_spec checkQ_7 q (by omega) (by omega)
  · exact fromB_spec checkQ_8 q (by omega) (by omega)
  · exact fromB_spec checkQ_9 q (by omega) (by omega)
  · exact fromB_spec checkQ_10 q (by omega) (by omega)
  · exact fromB_spec checkQ_11 q (by omega) (by omega)
  · exact fromB_spec checkQ_12 q (by omega) (by omega)
  · exact fromB_spec checkQ_13 q (by omega) (by omega)
  · exact fromB_spec checkQ_14 q (by omega) (by omega)
  · exact fromB_spec checkQ_15 q (by omega) (by omega)
theorem below_row {q : Nat} (h41 : 41 ≤ q) (h : q < 4096) (hq : Prm q) : ∃ D, ordQ q D = true ∧ ∀ j, j < 16777216 / (q * D) + 1 → candB q (q + j * D) = true := by
  have hc := checkQ_all h41 h
  rw [checkQ, primeC_ok hq (by omega), Bool.not_true, Bool.false_or] at hc
  have hm : ∀ r ∈ belowAll.filter fun r => Nat.beq r.1 q, pieceB r = true := fun r hr => List.all_eq_true.1 belowAll_ok r ((List.mem_filter.1 hr).1)
  generalize (belowAll.filter fun r => Nat.beq r.1 q) = L at hc hm
  cases L with
  | nil => cases hc
  | cons r rs =>
    rw [rowOk, Bool.and_eq_true] at hc
    exact ⟨r.2.1, hc.1, fun j hj => seqB_spec _ _ _ hm hc.2 j hj⟩
theorem small_base {q : Nat} (hq : Prm q) (h : q < 41) : q ∈ [2, 3, 5, 7, 11, 13, 17, 19, 23, 29, 31, 37] := by
  have : ∀ q, q < 41 → q ∈ [2, 3, 5, 7, 11, 13, 17, 19, 23, 29, 31, 37] ∨ q < 2 ∨ ∃ d, d < q ∧ 2 ≤ d ∧ q % d = 0 := by decide
  rcases this q h with h1 | h1 | ⟨d, h1, h2, h3⟩
  · exact h1
  · have := hq.1; omega
  · rcases hq.2 d (Nat.dvd_of_mod_eq_zero h3) with e | e <;> omega
theorem primeC_prm {n : Nat} (h2 : 2 ≤ n) (hn : n < 16777216) (hc : primeC n = true) : Prm n := by
  apply Classical.byContradiction
  intro hnp
  rcases primeCL_all _ hc with h | hall
  · have : ∀ b ∈ [2, 3, 5, 7, 11, 13, 17, 19, 23, 29, 31, 37], 2 ≤ b ∧ ∀ d, d < b → 2 ≤ d → b % d ≠ 0 := by decide
    exact hnp (prm_small (this n h).1 (this n h).2)
  · have big : ∀ q, Prm q → q ∣ n → 41 ≤ q := fun q hq hd => by
      rcases Nat.lt_or_ge q 41 with h | h
      · exact absurd (Nat.mod_eq_zero_of_dvd hd) (hall q (small_base hq h)).1
      · exact h
    obtain ⟨q, m, hq, hqm, e⟩ : ∃ q m, Prm q ∧ q ≤ m ∧ n = q * m := by
      obtain ⟨q0, hq0, m0, e0⟩ := prm_part n h2
      rcases Nat.lt_or_ge m0 q0 with h | h
      · have hm1 : m0 ≠ 1 := by rintro rfl; rw [Nat.mul_one] at e0; exact hnp (e0 ▸ hq0)
        have hm0 : m0 ≠ 0 := by rintro rfl; omega
        obtain ⟨q1, hq1, m1, e1⟩ := prm_part m0 (by omega)
        have hm10 : 0 < m1 := Nat.pos_of_ne_zero (by rintro rfl; omega)
        have l1 : q1 ≤ m0 := by rw [e1]; exact Nat.le_mul_of_pos_right q1 hm10
        have l2 : q0 ≤ q0 * m1 := Nat.le_mul_of_pos_right q0 hm10
        exact ⟨q1, q0 * m1, hq1, by omega, by rw [e0, e1, Nat.mul_left_comm]⟩
      · exact ⟨q0, m0, hq0, h, e0⟩
    subst e
    have h41 := big q hq ⟨m, rfl⟩
    have hlt : q < 4096 := by
      apply Classical.byContradiction
      intro h
      have := Nat.mul_le_mul (show 4096 ≤ q by omega) (show 4096 ≤ m by omega)
      omega
    obtain ⟨D, hD, hrun⟩ := below_row h41 hlt hq
    exact row_no hq h41 hD hrun hqm hn hc
end Go.Proofs.YthomeenmcajmdaaGreatDoor
namespace Go.Proofs.YthomeenmcajmdaaGreatDoor
open Go.RowKit Go.Maps
theorem ipow_pos {q : Int} (h : 1 ≤ q) : ∀ k : Nat, 1 ≤ q ^ k
  | 0 => by simp
  | k + 1 => by
    rw [Int.pow_succ]
    have := Int.mul_le_mul (ipow_pos h k) h (by omega) (by have := ipow_pos h k; omega)
    omega
theorem pos_of_mul {a b : Int} (ha : 1 ≤ a) (h : 1 ≤ a * b) : 1 ≤ b := by
  apply Classical.byContradiction
  intro hb
  have := Int.mul_le_mul_of_nonneg_left (show b ≤ 0 by omega) (show 0 ≤ a by omega)
  rw [Int.mul_zero] at this
  omega
theorem steps_cons {q t n : Int} {ps : List (Int × Int)} (h : steps ((q, t) :: ps) n = some 1) (hn : 1 ≤ n) (hq : 2 ≤ q) (ht : 1 ≤ t) : ∃ m, steps ps m = some 1 ∧ 1 ≤ m ∧ q * m ≤ n ∧ q ∣ n := by
  rw [steps] at h
  cases e : divs q t.toNat n with
  | none => rw [e] at h; cases h
  | some m =>
    rw [e] at h
    have em := divs_mul e
    obtain ⟨k, hk⟩ : ∃ k, t.toNat = k + 1 := ⟨t.toNat - 1, by omega⟩
    rw [hk, Int.pow_succ] at em
    have hp := ipow_pos (show 1 ≤ q by omega) k
    have hqk : 1 ≤ q ^ k * q := by have := Int.mul_le_mul hp (show 1 ≤ q by omega) (by omega) (by omega); omega
    have hm : 1 ≤ m := pos_of_mul hqk (by rw [← em]; exact hn)
    refine ⟨m, h, hm, ?_, ⟨q ^ k * m, by rw [em]; ac_rfl⟩⟩
    have h1 : 1 * (q * m) ≤ q ^ k * (q * m) := Int.mul_le_mul_of_nonneg_right hp (Int.mul_nonneg (by omega) (by omega))
    rw [em, Int.mul_assoc]
    omega
theorem steps_weigh (g : Int → Nat) : ∀ (ps : List (Int × Int)) (n : Int), steps ps n = some 1 → 1 ≤ n → (∀ q ∈ ps, 2 ≤ q.1 ∧ 1 ≤ q.2 ∧ (g q.1 : Int) ≤ q.1) → (prodL (ps.map fun q => g q.1) : Int) ≤ n
  | [], n, _, hn, _ => by simp [prodL]; omega
  | (q, t) :: ps, n, h, hn, hg => by
    obtain ⟨h1, h2, h3⟩ := hg (q, t) (by simp)
    obtain ⟨m, e1, e2, e3, _⟩ := steps_cons h hn h1 h2
    have ih := steps_weigh g ps m e1 e2 (fun x hx => hg x (by simp [hx]))
    simp only [List.map_cons, prodL, Int.natCast_mul]
    exact Int.le_trans (Int.mul_le_mul h3 ih (Int.natCast_nonneg _) (show 0 ≤ q by have : 2 ≤ q := h1; omega)) e3
theorem steps_mem : ∀ (ps : List (Int × Int)) (n : Int), steps ps n = some 1 → 1 ≤ n → (∀ q ∈ ps, 2 ≤ q.1 ∧ 1 ≤ q.2) → ∀ q ∈ ps, q.1 ≤ n
  | [], n, _, hn, _, q, hq => by simp at hq
  | (q, t) :: ps, n, h, hn, hg, x, hx => by
    obtain ⟨h1, h2⟩ := hg (q, t) (by simp)
    obtain ⟨m, e1, e2, e3, _⟩ := steps_cons h hn h1 h2
    simp only at h1
    rcases List.mem_cons.1 hx with rfl | hx
    · simp only
      have := Int.mul_le_mul_of_nonneg_left e2 (show 0 ≤ q by omega)
      omega
    · have := steps_mem ps m e1 e2 (fun y hy => hg y (by simp [hy])) x hx
      have := Int.mul_le_mul_of_nonneg_right (show 1 ≤ q by omega) (show 0 ≤ m by omega)
      omega
theorem rises_all : ∀ {ps : List (Int × Int)} {a : Int}, rises a ps → ∀ q ∈ ps, a < q.1 ∧ 1 ≤ q.2
  | [], a, _, q, hq => by simp at hq
  | (p, s) :: ps, a, h, q, hq => by
    rcases List.mem_cons.1 hq with rfl | hq
    · exact ⟨h.1, h.2.1⟩
    · have := rises_all h.2.2 q hq
      have := h.1
      omega
theorem isP_odd {p : Int} (h : IsP p) (h3 : 3 ≤ p) : (p - 1) % 2 = 0 := by
  by_cases h4 : p = 3
  · subst h4; rfl
  · have := h.2 2 (by omega) (by omega)
    omega
theorem head2 {n : Int} (h1 : 1 ≤ n) (h2 : n % 2 = 0) (h3 : n < 4294967296) :
    ∃ t m rest, (partsD n).1 = (2, t) :: rest ∧ steps rest m = some 1 ∧ 1 ≤ m ∧ 2 * m ≤ n ∧ ∀ q ∈ rest, 3 ≤ q.1 ∧ 1 ≤ q.2 ∧ IsP q.1 := by
  obtain ⟨_, _, hs, hr, hp⟩ := partsD_full (partsD_small h1 h3)
  have hprm : Prm 2 := prm_small (by omega) (by omega)
  obtain ⟨q, hq, hd⟩ := upB_part hprm (upB_steps hr hs) (Int.dvd_of_emod_eq_zero h2)
  have hq2 : q.1 = 2 := by
    have := prm_eq (isP_prm (hp q hq)) hprm hd
    have := (hp q hq).1
    omega
  generalize (partsD n).1 = ps at *
  match ps with
  | [] => simp at hq
  | (a, t) :: rest =>
    obtain ⟨r1, r2, r3⟩ := hr
    have hra := rises_all r3
    have ha : a = 2 := by
      rcases List.mem_cons.1 hq with rfl | hq
      · exact hq2
      · have := hra q hq; omega
    subst ha
    obtain ⟨m, e1, e2, e3, _⟩ := steps_cons hs h1 (by omega) r2
    exact ⟨t, m, rest, rfl, e1, e2, e3, fun x hx => ⟨by have := hra x hx; omega, (hra x hx).2, hp x (by simp [hx])⟩⟩
theorem prodL_const (b : Nat) {α : Type} : ∀ l : List α, prodL (l.map fun _ => b) = b ^ l.length
  | [] => rfl
  | x :: l => by rw [List.map_cons, prodL, prodL_const b l, List.length_cons, Nat.pow_succ, Nat.mul_comm]
theorem parts_few {n : Int} (h1 : 1 ≤ n) (h2 : n % 2 = 0) (h3 : n < 16777216) : (partsD n).1.length ≤ 16 := by
  obtain ⟨t, m, rest, e, hs, hm, hle, hr⟩ := head2 h1 h2 (by omega)
  have := steps_weigh (fun _ => 3) rest m hs hm (fun q hq => ⟨by have := (hr q hq).1; omega, (hr q hq).2.1, by have := (hr q hq).1; simpa using this⟩)
  rw [prodL_const] at this
  rw [e, List.length_cons]
  apply Classical.byContradiction
  intro hc
  have h4 := Nat.pow_le_pow_right (show 0 < 3 by omega) (show 16 ≤ rest.length by omega)
  have h5 : 3 ^ 16 = 43046721 := by decide
  omega
def clo : Nat → Nat → List Int
  | 0, _ => []
  | f + 1, p => (p : Int) :: (partsOf p).flatMap fun q => if Nat.beq q.1.toNat 2 then [] else clo f q.1.toNat
theorem flat_pow {α : Type} (F : α → List Int) : ∀ l : List α, 2 ^ (l.flatMap F).length = prodL (l.map fun x => 2 ^ (F x).length)
  | [] => rfl
  | x :: l => by rw [List.flatMap_cons, List.length_append, Nat.pow_add, flat_pow F l, List.map_cons, prodL]
theorem flat_congr {α β : Type} {F G : α → List β} : ∀ {l : List α}, (∀ x ∈ l, F x = G x) → l.flatMap F = l.flatMap G
  | [], _ => rfl
  | x :: l, h => by rw [List.flatMap_cons, List.flatMap_cons, h x (by simp), flat_congr fun y hy => h y (by simp [hy])]
theorem clo_ok : ∀ (f p : Nat), IsP (p : Int) → 3 ≤ p → p < 2 ^ f → p < 16777216 →
    (∀ n ∈ clo f p, IsP n ∧ 3 ≤ n ∧ n ≤ p) ∧ (∀ n ∈ clo f p, ∀ q ∈ partsOf n, q.1 = 2 ∨ q.1 ∈ clo f p) ∧ 2 ^ (clo f p).length ≤ p - 1 ∧ (p : Int) ∈ clo f p
  | 0, p, _, h3, h, _ => by simp at h; omega
  | f + 1, p, hP, h3, hf, hlt => by
    obtain ⟨t, m, rest, e, hs, hm, hle, hr⟩ := head2 (n := (p : Int) - 1) (by omega) (isP_odd hP (by omega)) (by omega)
    have epo : partsOf (p : Int) = (2, t) :: rest := e
    have ec : clo (f + 1) p = (p : Int) :: rest.flatMap fun q => clo f q.1.toNat := by
      rw [clo, epo, List.flatMap_cons]
      have : Nat.beq ((2, t) : Int × Int).1.toNat 2 = true := rfl
      rw [this, if_pos rfl, List.nil_append]
      congr 1
      refine flat_congr fun q hq => ?_
      have hq3 := (hr q hq).1
      rw [show Nat.beq q.1.toNat 2 = false by rw [← Bool.not_eq_true, Nat.beq_eq]; omega, if_neg Bool.false_ne_true]
    have hle2 := steps_mem rest m hs hm (fun q hq => ⟨by have := (hr q hq).1; omega, (hr q hq).2.1⟩)
    have hpow : p < 2 ^ f * 2 := by rw [← Nat.pow_succ]; exact hf
    have ih : ∀ q ∈ rest, (∀ n ∈ clo f q.1.toNat, IsP n ∧ 3 ≤ n ∧ n ≤ (q.1.toNat : Nat)) ∧ (∀ n ∈ clo f q.1.toNat, ∀ x ∈ partsOf n, x.1 = 2 ∨ x.1 ∈ clo f q.1.toNat) ∧ 2 ^ (clo f q.1.toNat).length ≤ q.1.toNat - 1 ∧ ((q.1.toNat : Nat) : Int) ∈ clo f q.1.toNat := by
      intro q hq
      obtain ⟨a1, a2, a3⟩ := hr q hq
      have a4 := hle2 q hq
      have e1 : ((q.1.toNat : Nat) : Int) = q.1 := by omega
      exact clo_ok f q.1.toNat (by rw [e1]; exact a3) (by omega) (by omega) (by omega)
    have hin : ∀ q ∈ rest, ∀ n ∈ clo f q.1.toNat, n ∈ clo (f + 1) p := fun q hq n hn => by
      rw [ec]; exact List.mem_cons_of_mem _ (List.mem_flatMap.2 ⟨q, hq, hn⟩)
    refine ⟨fun n hn => ?_, fun n hn x hx => ?_, ?_, by rw [ec]; simp⟩
    · rw [ec] at hn
      rcases List.mem_cons.1 hn with rfl | hn
      · exact ⟨hP, by omega, by omega⟩
      · obtain ⟨q, hq, hn⟩ := List.mem_flatMap.1 hn
        obtain ⟨b1, b2, b3⟩ := (ih q hq).1 n hn
        have := hle2 q hq
        have := (hr q hq).1
        exact ⟨b1, b2, by omega⟩
    · rw [ec] at hn
      rcases List.mem_cons.1 hn with rfl | hn
      · rw [epo] at hx
        rcases List.mem_cons.1 hx with rfl | hx
        · exact .inl rfl
        · right
          have e1 : ((x.1.toNat : Nat) : Int) = x.1 := by have := (hr x hx).1; omega
          have := hin x hx _ (ih x hx).2.2.2
          rwa [e1] at this
      · obtain ⟨q, hq, hn⟩ := List.mem_flatMap.1 hn
        rcases (ih q hq).2.1 n hn x hx with h | h
        · exact .inl h
        · exact .inr (hin q hq _ h)
    · rw [ec, List.length_cons, Nat.pow_succ, flat_pow]
      have := steps_weigh (fun x => 2 ^ (clo f x.toNat).length) rest m hs hm (fun q hq => by
        obtain ⟨a1, a2, a3⟩ := hr q hq
        have := (ih q hq).2.2.1
        refine ⟨by omega, a2, ?_⟩
        show ((2 ^ (clo f q.1.toNat).length : Nat) : Int) ≤ q.1
        omega)
      omega
def genA (n : Int) : Int := (findR n.toNat (partsOf n) n.toNat 1 : Nat)
theorem findR_finds (n : Nat) (ps : List (Int × Int)) : ∀ f j r, j ≤ r → r < j + f → rootC n r ps = true → rootC n (findR n ps f j) ps = true ∧ findR n ps f j ≤ r
  | 0, j, r, h1, h2, _ => by omega
  | f + 1, j, r, h1, h2, h => by
    rw [findR]
    split
    · exact ⟨by assumption, h1⟩
    · have : r ≠ j := fun e => by subst e; exact absurd h (by assumption)
      exact findR_finds n ps f (j + 1) r (by omega) (by omega) h
theorem root_C {N r : Nat} (h : Root N r) (hr : r < N) {ps : List (Int × Int)} (hp : ∀ q ∈ ps, 2 ≤ q.1 ∧ q.1 ≤ N - 1) : rootC N r ps = true := by
  have hb := h.big
  have h1 : 1 % N = 1 := Nat.mod_eq_of_lt (by omega)
  rw [rootC, Bool.and_eq_true, List.all_eq_true]
  refine ⟨by rw [Nat.beq_eq, powC, if_pos ⟨by omega, hr⟩]; exact h.one, fun q hq => ?_⟩
  obtain ⟨a1, a2⟩ := hp q hq
  obtain ⟨Q, hQ⟩ : ∃ Q : Nat, q.1.toNat = Q := ⟨_, rfl⟩
  have h2 : 0 < (N - 1) / Q := Nat.div_pos (by omega) (by omega)
  have h3 : (N - 1) / Q < N - 1 := Nat.div_lt_self (by omega) (by omega)
  have := h.inj 0 ((N - 1) / Q) h2 h3
  rw [hQ, Bool.not_eq_true', ← Bool.not_eq_true, Nat.beq_eq, powC, if_pos ⟨by omega, hr⟩]
  intro he
  rw [Nat.pow_zero, h1, he] at this
  exact this rfl
theorem parts_le {n : Int} (h1 : 1 ≤ n) (h3 : n < 4294967296) : ∀ q ∈ (partsD n).1, 2 ≤ q.1 ∧ q.1 ≤ n := by
  obtain ⟨_, _, hs, hr, hp⟩ := partsD_full (partsD_small h1 h3)
  have h2 : ∀ q ∈ (partsD n).1, 2 ≤ q.1 ∧ 1 ≤ q.2 := fun q hq => by have := rises_all hr q hq; omega
  exact fun q hq => ⟨(h2 q hq).1, steps_mem _ n hs h1 h2 q hq⟩
theorem gen_root {N : Nat} (hP : IsP (N : Int)) (h3 : 3 ≤ N) (hlt : N < 16777216) : ∃ g : Nat, genA N = g ∧ 1 ≤ g ∧ g < N ∧ rootC N g (partsOf N) = true ∧ ∀ j : Nat, 1 ≤ j → j < g → rootC N j (partsOf N) = false := by
  have hp := isP_prm hP
  rw [Int.natAbs_natCast] at hp
  obtain ⟨r, r0, r1, hr⟩ := prm_root hp (by omega)
  have hpl := parts_le (n := (N : Int) - 1) (by omega) (by omega)
  have hf := findR_finds N (partsOf N) N 1 r (by omega) (by omega) (root_C hr r1 fun q hq => by have := hpl q hq; omega)
  have hle := (findR_le N (partsOf N) N 1).1
  refine ⟨findR N (partsOf N) N 1, by simp [genA], hle, by omega, hf.1, fun j h1 h2 => findR_least N (partsOf N) N 1 j h1 h2⟩
theorem clo_good {p : Nat} (hP : IsP (p : Int)) (h3 : 3 ≤ p) (hlt : p < 16777216) : Good (clo 24 p) genA := by
  obtain ⟨h1, h2, _, _⟩ := clo_ok 24 p hP h3 (by simpa using hlt) hlt
  refine ⟨fun n hn => ?_, fun n hn => ?_, fun n hn => ?_, fun n hn => ?_, fun n hn => ?_, fun n hn => ?_, fun n hn j hj1 hj2 => ?_, fun n hn q hq => h2 n hn q hq⟩
  all_goals obtain ⟨a1, a2, a3⟩ := h1 n hn
  all_goals obtain ⟨N, rfl⟩ : ∃ N : Nat, n = N := ⟨n.toNat, by omega⟩
  · omega
  · have := isP_prm a1
    rw [Int.natAbs_natCast] at this
    rw [primeB_C N (by omega) (by omega)]; exact primeC_ok this (by omega)
  · exact partsD_small (by omega) (by omega)
  · have := parts_few (n := (N : Int) - 1) (by omega) (isP_odd a1 a2) (by omega)
    show (partsD ((N : Int) - 1)).1.length ≤ 64
    omega
  · obtain ⟨g, e, g1, g2, _⟩ := gen_root a1 (by omega) (by omega)
    rw [e]; omega
  · obtain ⟨g, e, g1, g2, g3, _⟩ := gen_root a1 (by omega) (by omega)
    rw [e, rootB_C N _ _ (by omega) (by omega) (partsOf_pos _)]; exact g3
  · obtain ⟨g, e, g1, g2, g3, g4⟩ := gen_root a1 (by omega) (by omega)
    obtain ⟨J, rfl⟩ : ∃ J : Nat, j = J := ⟨j.toNat, by omega⟩
    rw [rootB_C N _ _ (by omega) (by omega) (partsOf_pos _)]
    exact g4 J (by omega) (by omega)
theorem clo_few {p : Nat} (hP : IsP (p : Int)) (h3 : 3 ≤ p) (hlt : p < 16777216) : (clo 24 p).length ≤ 24 := by
  obtain ⟨_, _, h, _⟩ := clo_ok 24 p hP h3 (by simpa using hlt) hlt
  apply Classical.byContradiction
  intro hc
  have h4 := Nat.pow_le_pow_right (show 0 < 2 by omega) (show 25 ≤ (clo 24 p).length by omega)
  have h5 : 2 ^ 25 = 33554432 := by decide
  omega
theorem clo_head {p : Nat} (hP : IsP (p : Int)) (h3 : 3 ≤ p) (hlt : p < 16777216) : (p : Int) ∈ clo 24 p := (clo_ok 24 p hP h3 (by simpa using hlt) hlt).2.2.2
theorem rise_eq : ∀ {a b : List Int}, a.Pairwise (· < ·) → b.Pairwise (· < ·) → (∀ x, x ∈ a ↔ x ∈ b) → a = b
  | [], [], _, _, _ => rfl
  | [], y :: b, _, _, h => by have := (h y).2 (by simp); simp at this
  | x :: a, [], _, _, h => by have := (h x).1 (by simp); simp at this
  | x :: a, y :: b, ha, hb, h => by
    rw [List.pairwise_cons] at ha hb
    have hxy : x = y := by
      rcases List.mem_cons.1 ((h x).1 (by simp)) with h1 | h1
      · exact h1
      · rcases List.mem_cons.1 ((h y).2 (by simp)) with h2 | h2
        · exact h2.symm
        · have := hb.1 x h1; have := ha.1 y h2; omega
    subst hxy
    congr 1
    refine rise_eq ha.2 hb.2 fun z => ⟨fun hz => ?_, fun hz => ?_⟩
    · rcases List.mem_cons.1 ((h z).1 (by simp [hz])) with h1 | h1
      · subst h1; have := ha.1 z hz; omega
      · exact h1
    · rcases List.mem_cons.1 ((h z).2 (by simp [hz])) with h1 | h1
      · subst h1; have := hb.1 z hz; omega
      · exact h1
open Classical in
noncomputable def builtL (p : Int) : List Int := if h : ∃ ss : List Int, ss.Pairwise (· < ·) ∧ ∀ n, n ∈ ss ↔ p ≠ 2 ∧ Reach p n then Classical.choose h else []
theorem built_eq {p : Int} {ss : List Int} (h1 : ss.Pairwise (· < ·)) (h2 : ∀ n, n ∈ ss ↔ p ≠ 2 ∧ Reach p n) : ss = builtL p := by
  have h : ∃ ss : List Int, ss.Pairwise (· < ·) ∧ ∀ n, n ∈ ss ↔ p ≠ 2 ∧ Reach p n := ⟨ss, h1, h2⟩
  have hs := Classical.choose_spec h
  rw [builtL, dif_pos h]
  exact rise_eq h1 hs.1 fun x => (h2 x).trans (hs.2 x).symm
noncomputable def bErr (p : Int) : Int := if p < 2 then 1 else if isB p then 0 else 6
noncomputable def bList (p : Int) : List Prf := if bErr p = 0 then (builtL p).map (mkPrf genA) else []
theorem bList_no {p : Int} (h : bErr p ≠ 0) : bList p = [] := by rw [bList, if_neg h]
theorem isB_prm {p : Nat} (h2 : 2 ≤ p) (hlt : p < 16777216) : primeC p = isB (p : Int) := by
  rw [Bool.eq_iff_iff, isB_iff]
  exact ⟨fun h => root_isP (by omega) (by rw [Int.natAbs_natCast]; exact primeC_prm h2 hlt h), fun h => by
    have := isP_prm h
    rw [Int.natAbs_natCast] at this
    exact primeC_ok this (by omega)⟩
end Go.Proofs.YthomeenmcajmdaaGreatDoor
