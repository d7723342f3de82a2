import Derived.Test.YthomeenmcajmdaaGreatDoorBun17
import Derived.Test.YthomeenmcajmdaaGreatDoorBun05
import Derived.Test.YthomeenmcajmdaaGreatDoorBun03
import Derived.OwnWalk
import Derived.Deep.RegionHeld3
import Derived.Deep.DrawnRows
namespace Go.Proofs.YthomeenmcajmdaaGreatDoor
open Go.RowKit
attribute [local go_sem ↓] Go.wp_at_zero Go.wp_at_succ
def Ser.mono (p c : Int) (n : Nat) : Ser p := .of p fun k => if k = n then c else 0
theorem Ser.mono_co {p : Int} (c : Int) (n k : Nat) : (Ser.mono p c n).co k = if k = n then c % p else 0 := by
  show (if k = n then c else 0) % p = _
  split <;> simp
theorem Ser.mono_mul_co {p : Int} (c : Int) (n : Nat) (b : Ser p) (k : Nat) : (Ser.mono p c n * b).co k = if n ≤ k then c * b.co (k - n) % p else 0 := by
  show cv (fun i => (if i = n then c else 0) % p) b.co k % p = _
  rw [cv_mod (f' := fun i => if i = n then c else 0) (g' := b.co) (fun i => Int.emod_emod_of_dvd _ (Int.dvd_refl _)) (fun _ => rfl)]
  unfold cv
  split
  · rename_i h
    rw [sm_piece n 1 (by omega) (fun i hi => by simp only []; rw [if_neg (by omega), Int.zero_mul]) (fun i h1 h2 => by simp only []; rw [if_neg (by omega), Int.zero_mul])]
    simp [sm]
  · rename_i h
    rw [sm_zero fun i hi => by simp only []; rw [if_neg (by omega), Int.zero_mul]]
    exact Int.zero_emod p
theorem div_round {p : Int} {xs ys Q R R' : List Int} {k : Nat} {q : Int} (hp : 2 ≤ p) (hy : Rng p ys) (hQ : Rng p Q) (hR : Rng p R) (hk : k < Q.length) (hQk : Q.getD k 0 = 0)
    (hR' : ∀ t, R'.getD t 0 = if k ≤ t ∧ t < k + ys.length then (R.getD t 0 - q * ys.getD (t - k) 0) % p else R.getD t 0) (h : pol p xs = pol p Q * pol p ys + pol p R) :
    Rng p R' ∧ pol p xs = pol p (Q.set k q) * pol p ys + pol p R' := by
  have hr : Rng p R' := Rng.of_get fun t ht => by
    rw [hR']
    split
    · exact mod_range _ hp
    · exact hR.getD hp t
  refine ⟨hr, ?_⟩
  have e1 : pol p (Q.set k q) = pol p Q + Ser.mono p q k := Ser.ext_ fun t => by
    rw [Ser.add_co, hQ.co, Ser.mono_co, pol_co, set_get _ _ _ _ hk]
    by_cases e : k = t
    · subst e
      rw [if_pos rfl, if_pos rfl, hQk, Int.zero_add, Int.emod_emod_of_dvd _ (Int.dvd_refl _)]
    · rw [if_neg e, if_neg (fun h => e h.symm), Int.add_zero]
  have e2 : Ser.mono p q k * pol p ys + pol p R' = pol p R := Ser.ext_ fun t => by
    rw [Ser.add_co, Ser.mono_mul_co, hr.co, hR.co, hR', hy.co]
    by_cases h1 : k ≤ t
    · rw [if_pos h1]
      by_cases h2 : t < k + ys.length
      · rw [if_pos ⟨h1, h2⟩, ma_l, ma_r, show q * ys.getD (t - k) 0 + (R.getD t 0 - q * ys.getD (t - k) 0) = R.getD t 0 by omega]
        exact mod_small (hR.getD hp t).1 (hR.getD hp t).2
      · rw [if_neg (by omega), getD_over (xs := ys) (by omega), Int.mul_zero, Int.zero_emod, Int.zero_add]
        exact mod_small (hR.getD hp t).1 (hR.getD hp t).2
    · rw [if_neg h1, if_neg (by omega), Int.zero_add]
      exact mod_small (hR.getD hp t).1 (hR.getD hp t).2
  rw [h, e1, ← e2, Ser.add_mul]
  ac_rfl
theorem top_gone {p x i y : Int} (hi : y * i % p = 1) : (x - x * i % p * y) % p = 0 := by
  rw [← ms_r, mm_l, ms_r, show x - x * i * y = x - x * (y * i) by grind, ← ms_r, ← mm_r, hi, Int.mul_one, ms_r, Int.sub_self, Int.zero_emod]
theorem top_stays {p x i y : Int} (hi : y * i % p = 1) (h0 : 0 ≤ x) (hx : x < p) (h : x * i % p = 0) : x = 0 := by
  have e : x * (y * i) % p = 0 := by rw [show x * (y * i) = x * i * y by grind, ← mm_l, h, Int.zero_mul, Int.zero_emod]
  rw [← mm_r, hi, Int.mul_one, mod_small h0 hx] at e
  exact e
theorem rtimes_as (p a b r : Int) (w : World) (hp : rightB p = true) (ha0 : 0 ≤ a) (ha : a < p) (hb0 : 0 ≤ b) (hb : b < p) (h : a * b % p = r) :
    Calls Tryz.prog 165 #[.int .u64 p, .int .u64 a, .int .u64 b] w (Ret (.int .u64 r) w) := h ▸ rtimes_any p a b w hp ha0 ha hb0 hb
theorem minus_as (p a b r : Int) (w : World) (hp : rightB p = true) (ha0 : 0 ≤ a) (ha : a < p) (hb0 : 0 ≤ b) (hb : b < p) (h : (a - b) % p = r) :
    Calls Tryz.prog 167 #[.int .u64 p, .int .u64 a, .int .u64 b] w (Ret (.int .u64 r) w) := h ▸ minus_any p a b w hp ha0 ha hb0 hb
theorem WRow.other {w : World} {g off b o : Nat} {v : Value} {xs : List Int} (h : WRow w g off xs) (hne : g ≠ b) : WRow (w.setCell ⟨b, o, none⟩ v) g off xs :=
  ⟨by simpa [World.setCell] using h.1, fun j hj => ⟨(World.cell?_setCell_other _ _ _ _ (by intro e; injection e with e1; omega)).trans (h.2 j hj).1, by rw [World.frozen?_setCell]; exact (h.2 j hj).2⟩⟩
theorem lead_part (R : List Int) (k n : Nat) (h : k + n ≤ R.length) (h0 : 0 < n) : lead ((R.drop k).take n) = R.getD (k + n - 1) 0 := by
  unfold lead
  rw [show ((R.drop k).take n).length = n by simp; omega, sub_get _ _ _ _ (by omega), show k + (n - 1) = k + n - 1 by omega]
theorem clone_ints {w : World} {a : Option Addr} {n cap B : Nat} {xs : List Int} (hn : xs.length = n) (h1 : n ≤ cap) (h2 : cap ≤ 9223372036854775807) (h : 0 < n → ∃ g, a = some ⟨g, 0, none⟩ ∧ B ≤ g ∧ WRow w g 0 xs) : Ints .u64 w (.slice a n cap) xs := by
  subst hn
  refine ⟨a, cap, rfl, h1, h2, fun hp => ?_⟩
  obtain ⟨g, rfl, _, hr⟩ := h hp
  exact ⟨g, 0, rfl, hr.1, fun j hj => (hr.2 j hj).1⟩
theorem trimL_self {p : Int} {xs : List Int} (h : Pol p xs) : trimL xs = xs := (trimL_pol h.rng).1.inj h (trimL_pol h.rng).2
def FreshV (w : World) (v : Value) : Prop := ∀ b off n c, v = .slice (some ⟨b, off, none⟩) n c → 0 < n → w.heap.size ≤ b
theorem FreshV.mk {w : World} {g n c : Nat} (h : w.heap.size ≤ g) : FreshV w (.slice (some ⟨g, 0, none⟩) n c) := fun b off n' c' e _ => by
  injection e with e1
  injection e1 with e1
  injection e1 with e1
  omega
def RetDiv (p : Int) (xs ys : List Int) (w : World) (e : Ending) (w' : World) : Prop := ∃ v1 v2 qs rs, e = .returned (.tuple #[v1, v2, .int .i64 0]) ∧ Ints .u64 w' v1 qs ∧ Ints .u64 w' v2 rs ∧ Pol p qs ∧ Pol p rs ∧
  pol p xs = pol p qs * pol p ys + pol p rs ∧ rs.length < ys.length ∧ qs.length = xs.length + 1 - ys.length ∧ Ext w w' ∧ FreshV w v1 ∧ FreshV w v2
set_option maxRecDepth 100000 in
set_option maxHeartbeats 2000000 in
theorem pDiv_less (p : Int) (v u : Value) (xs ys : List Int) (w : World) (hp : rightB p = true) (hv : Ints .u64 w v xs) (hu : Ints .u64 w u ys) (hx : Pol p xs) (hy : Pol p ys) (hl : xs.length ≤ 512 ∧ ys.length ≤ 512) (hlt : xs.length < ys.length) (hun : unitB p (lead ys) = true) :
    Calls Tryz.prog 146 #[.int .u64 p, v, u] w (RetDiv p xs ys w) := by
  have hp2 := rightB_true hp
  have h0 : ys ≠ [] := fun e => by rw [e] at hlt; simp at hlt
  have hr := hy.lead_range h0
  have c1 := hid (polRight_yes p v xs w hp hv hx hl.1)
  have c2 := hid (polRight_yes p u ys w hp hu hy hl.2)
  have c3 := hid (invLast_yes p u ys w hp hu (by omega) (by omega) hun)
  have Hv := hid hv; have Hx := hid hx
  obtain ⟨a, cap, rfl, k1, k2, k3⟩ := hv
  obtain ⟨a', cap', rfl, m1, m2, m3⟩ := hu
  obtain ⟨la, hla⟩ : ∃ la, xs.length = la := ⟨_, rfl⟩
  obtain ⟨lb, hlb⟩ : ∃ lb, ys.length = lb := ⟨_, rfl⟩
  rw [hla] at Hv hl k1 hlt c1 ⊢
  rw [hlb] at hl m1 hlt c2 c3 ⊢
  have Hla := hid hla; have Hlb := hid hlb
  have hmk := make_ints (P := Tryz.prog) 24 22 .u64 8 (by omega) (by kernel_rfl) (by kernel_rfl) 0 0 (Nat.le_refl _) (by omega)
  rw [show (((0 : Nat) : Int)) = 0 from rfl] at hmk
  have hq : ¬ (0 : Int) < (la : Int) - (lb : Int) + 1 := by omega
  have hq2 : (la : Int) - (lb : Int) + 1 ≤ 0 := by omega
  clear hp hx hy k3 m3 hr hun h0 hla hlb
  go_enter Tryz.func146, Tryz.ntmps146
  go_wp2_with (first
    | (go_at_call_of 163 a; refine c1.out.mono ?_; rintro _ _ ⟨rfl, rfl⟩)
    | (go_at_call_of 163 a'; refine c2.out.mono ?_; rintro _ _ ⟨rfl, rfl⟩)
    | (go_at_call 164; refine c3.out.mono ?_; rintro _ w1 ⟨rfl, h1⟩)
    | fail)
  have hcl := clone_any _ xs w1 (Hv.out.ext h1) (by rw [Hla.out]; omega)
  rw [Hla.out] at hcl
  refine hcl.mono ?_
  clear hcl
  rintro _ w2 ⟨a1, cap1, rfl, e1, e2, e3, e4⟩
  have hi := clone_ints Hla.out e1 e2 e3
  have Hi := hid hi
  have E3 := hid e3
  have hsz1 := h1.size
  clear hi e3
  have hx2 : Ext w w2 := h1.trans e4
  go_wp2_with fail
  obtain ⟨w3, hw3⟩ : ∃ w3, w2.alloc (.cells (madeCells #[Value.int .u64 0] 0) 22) = w3 := ⟨_, rfl⟩
  have hx3 : Ext w2 w3 := by rw [← hw3]; exact (Ext.refl w2).alloc _
  have hq3 := Ints.made (k := .u64) (w := w2) (t := 22) (n := 0) (c := 0) (Nat.le_refl _) (by omega) rfl
  rw [hw3] at hq3 ⊢
  have Hq3 := hid hq3
  clear hw3 hq3 hmk
  have ht := trimmed_any a1 cap1 xs w3 (by rw [Hla.out]; exact Hi.out.ext hx3)
  rw [Hla.out] at ht
  have Ht := hid ht
  clear ht
  go_loopw [14] (fun v wr => v = .int .i64 (-1) ∧ wr = w3) (fun _ _ => 0)
  case atStart => exact ⟨rfl, rfl⟩
  case round =>
    obtain ⟨rfl, rfl⟩ := hrel
    go_wp2_with (go_at_call 161; refine Ht.out.mono ?_; rintro _ _ ⟨rfl, rfl⟩)
    go_ret3
    refine ⟨_, _, [], xs, rfl, Hq3.out, ?_, Pol.nil, Hx.out, by rw [pol_nil, Ser.zero_mul, Ser.zero_add], by rw [Hla.out, Hlb.out]; exact hlt, by rw [Hla.out, Hlb.out]; simp; omega, hx2.trans hx3, fun b off n c e hn => (by injection e with _ e2 _; omega), fun b off n c e hn => ?_⟩
    case refine_2 =>
      injection e with ea en _
      have h9 : 0 < la := by have := trimN_le xs la; omega
      obtain ⟨g, eg, hg, _⟩ := E3.out h9
      rw [eg] at ea
      injection ea with ea
      injection ea with ea
      omega
    have e : trimL xs = xs := trimL_self Hx.out
    have e2 : trimN xs la = la := by
      have := congrArg List.length e
      rw [trimL, List.length_take, Hla.out] at this
      have := trimN_le xs la
      omega
    rw [e2]
    exact Hi.out.ext hx3
set_option maxRecDepth 100000 in
set_option maxHeartbeats 4000000 in
theorem pDiv_more (p : Int) (v u : Value) (xs ys : List Int) (w : World) (hp : rightB p = true) (hv : Ints .u64 w v xs) (hu : Ints .u64 w u ys) (hx : Pol p xs) (hy : Pol p ys) (hl : xs.length ≤ 512 ∧ ys.length ≤ 512) (hle : ys.length ≤ xs.length) (h0 : ys ≠ []) (hun : unitB p (lead ys) = true) :
    Calls Tryz.prog 146 #[.int .u64 p, v, u] w (RetDiv p xs ys w) := by
  have hp2 := rightB_true hp
  have hr := hy.lead_range h0
  have hb0 := List.length_pos_iff.2 h0
  have c1 := hid (polRight_yes p v xs w hp hv hx hl.1)
  have c2 := hid (polRight_yes p u ys w hp hu hy hl.2)
  have c3 := hid (invLast_yes p u ys w hp hu (by omega) (by omega) hun)
  have hun2 := unit_inv p (lead ys) hp2.1 (by omega) hun
  have hinv := minv_range p (lead ys) hp2.1
  obtain ⟨inv, hin⟩ : ∃ inv, minv p (lead ys) = inv := ⟨_, rfl⟩
  rw [hin] at c3 hun2 hinv
  have Hv := hid hv; have Hu := hid hu; have Hx := hid hx; have Hy := hid hy; have Hp := hid hp; have Hun := hid hun2
  obtain ⟨a, cap, rfl, k1, k2, k3⟩ := hv
  obtain ⟨a', cap', rfl, m1, m2, m3⟩ := hu
  have M3 := hid m3
  clear k3 m3
  obtain ⟨la, hla⟩ : ∃ la, xs.length = la := ⟨_, rfl⟩
  obtain ⟨lb, hlb⟩ : ∃ lb, ys.length = lb := ⟨_, rfl⟩
  rw [hla] at Hv hl k1 hle c1 ⊢
  rw [hlb] at Hu hl m1 hle c2 c3 hb0 M3 ⊢
  have Hla := hid hla; have Hlb := hid hlb
  obtain ⟨n, hn⟩ : ∃ n, la + 1 = n + lb := ⟨la + 1 - lb, by omega⟩
  have hmk := make_ints (P := Tryz.prog) 24 22 .u64 8 (by omega) (by kernel_rfl) (by kernel_rfl) n n (Nat.le_refl _) (by omega)
  have hq : (la : Int) - (lb : Int) + 1 = (n : Int) := by omega
  have hq2 : (0 : Int) < (n : Int) := by omega
  clear hp hx hy hr hun h0 hla hlb hin hun2
  go_enter Tryz.func146, Tryz.ntmps146
  go_wp2_with (first
    | (go_at_call_of 163 a; refine c1.out.mono ?_; rintro _ _ ⟨rfl, rfl⟩)
    | (go_at_call_of 163 a'; refine c2.out.mono ?_; rintro _ _ ⟨rfl, rfl⟩)
    | (go_at_call 164; refine c3.out.mono ?_; rintro _ w1 ⟨rfl, h1⟩)
    | fail)
  have hcl := clone_any _ xs w1 (Hv.out.ext h1) (by rw [Hla.out]; omega)
  rw [Hla.out] at hcl
  refine hcl.mono ?_
  clear hcl
  rintro _ w2 ⟨a1, cap1, rfl, e1, e2, e3, e4⟩
  obtain ⟨g1, rfl, hg1, hr1⟩ := e3 (by omega)
  clear e3
  have hx2 : Ext w w2 := h1.trans e4
  have Hr1 := hid hr1
  clear hr1
  go_wp2_with fail
  have hg1' : g1 < w2.heap.size := Hr1.out.1
  have hg2 : w.heap.size ≤ w2.heap.size := hx2.size
  have hrow := WRow.made (w := w2) (t := 22) (n := n) rfl
  obtain ⟨g2, eg2⟩ : ∃ g2, w2.heap.size = g2 := ⟨_, rfl⟩
  obtain ⟨w3, hw3⟩ : ∃ w3, w2.alloc (.cells (madeCells #[Value.int .u64 0] n) 22) = w3 := ⟨_, rfl⟩
  have hx3 : Ext w2 w3 := by rw [← hw3]; exact (Ext.refl w2).alloc _
  rw [hw3, eg2] at hrow ⊢
  rw [eg2] at hg1' hg2
  have hrow1 := Hr1.out.ext hx3
  have hx4 : Ext w w3 := hx2.trans hx3
  have hgw1 : w.heap.size ≤ g1 := Nat.le_trans h1.size hg1
  have hgne : g1 ≠ g2 := by omega
  have Hrow := hid hrow; have Hrow1 := hid hrow1
  clear hw3 hrow hrow1 eg2 hmk Hr1
  go_loopw [14] (fun v wr => ∃ (z : Int) (m : Nat) (R Q : List Int), v = .int .i64 z ∧ z + 1 = (m : Int) ∧ m ≤ n ∧ Hid (R.length = la) ∧ Hid (Q.length = n) ∧ Hid (Rng p R) ∧ Hid (Rng p Q) ∧ Hid (∀ t, m + lb ≤ t + 1 → R.getD t 0 = 0) ∧ Hid (∀ j, j < m → Q.getD j 0 = 0) ∧
    Hid (m = n → R = xs) ∧ Hid (m < n → Q.getD (n - 1) 0 ≠ 0) ∧ Hid (pol p xs = pol p Q * pol p ys + pol p R) ∧ WRow wr g1 0 R ∧ WRow wr g2 0 Q ∧ Ext w wr) (fun v _ => ((intOf v) + 1).toNat)
  case atStart =>
    refine ⟨(n : Int) - 1, n, xs, List.replicate n 0, rfl, by omega, Nat.le_refl _, Hla, hid (by simp), hid Hx.out.rng, hid (fun x hx => ?_), hid (fun t ht => getD_over (by rw [Hla.out]; omega)), hid (fun j _ => replicate_get n j), hid (fun _ => rfl), hid (fun h => absurd h (Nat.lt_irrefl _)), hid ?_, Hrow1.out, Hrow.out, hx4⟩
    · rw [(List.mem_replicate.1 hx).2]; omega
    · have e : pol p (List.replicate n 0) = 0 := Ser.ext_ fun k => by rw [pol_co, replicate_get, Ser.zero_co]; simp
      rw [e, Ser.zero_mul, Ser.zero_add]
  case round =>
    obtain ⟨z, m, R, Q, rfl, hz, hm, hRl, hQl, hRr, hQr, hR0, hQ0, hRx, hQt, he, hw1, hw2, hxw⟩ := hrel
    have Hw1 := hid hw1; have Hw2 := hid hw2
    clear hw1 hw2 hx4 Hrow Hrow1
    cases m with
    | zero =>
      obtain rfl : z = -1 := by omega
      have hi1 := Hw1.out.ints' hRl.out e1 e2
      have hi2 := Hw2.out.ints' hQl.out (Nat.le_refl n) (by omega)
      have ht := trimmed_any (some ⟨g1, 0, none⟩) cap1 R _ (by rw [hRl.out]; exact hi1)
      rw [hRl.out] at ht
      have Ht := hid ht; have Hi1 := hid hi1; have Hi2 := hid hi2
      clear ht hi1 hi2
      go_wp2_with (go_at_call 161; refine Ht.out.mono ?_; rintro _ _ ⟨rfl, rfl⟩)
      go_ret3
      have htl : trimN R la = trimN R R.length := by rw [hRl.out]
      have htp := trimL_pol hRr.out
      refine ⟨_, _, Q, trimL R, rfl, Hi2.out, ?_, ⟨hQr.out, fun _ => ?_⟩, htp.1, by rw [htp.2]; exact he.out, ?_, by rw [Hla.out, Hlb.out, hQl.out]; omega, hxw, FreshV.mk hg2, FreshV.mk hgw1⟩
      · rw [htl]
        exact (Hi1.out.take' _ (by rw [← htl, hRl.out]; exact trimN_le _ _))
      · rw [hQl.out]
        exact hQt.out (by omega)
      · have h5 := htp.1.len_le (n := lb - 1) (fun t ht => by rw [htp.2, hRr.out.co]; exact hR0.out t (by omega))
        rw [Hlb.out]; omega
    | succ k =>
      obtain rfl : z = (k : Int) := by omega
      have hkn : k + lb ≤ la := by omega
      obtain ⟨kl, hkl⟩ : ∃ kl, k + lb = kl := ⟨_, rfl⟩
      have hkl1 : (k : Int) + (lb : Int) = (kl : Int) := by omega
      have hkl2 : kl ≤ cap1 := by omega
      have hcne : ¬ cap1 = k := by omega
      have hkk : kl - k = lb := by omega
      have hpart := (Hw1.out.ints' hRl.out e1 e2).sub k lb (by rw [hRl.out]; omega) hb0
      rw [Nat.zero_add] at hpart
      have hlast := last_any _ ((R.drop k).take lb) _ hpart (by simp; rw [hRl.out]; omega)
      rw [lead_part R k lb (by rw [hRl.out]; omega) hb0] at hlast
      have hxr := hRr.out.getD hp2.1 (k + lb - 1)
      obtain ⟨x, ex⟩ : ∃ x, R.getD (k + lb - 1) 0 = x := ⟨_, rfl⟩
      rw [ex] at hlast hxr
      obtain ⟨q, eq, hq0, hq1⟩ := name_mod (p := p) (x * inv) hp2.1
      have Hlast := hid hlast
      have Ex := hid ex; have Eq := hid eq
      have hgone := top_gone (x := x) Hun.out
      rw [eq] at hgone
      have Hgone := hid hgone
      clear hlast ex eq hpart hgone
      have cq := (Hw2.out.2 k (by rw [hQl.out]; omega)).1
      have fq := (Hw2.out.2 k (by rw [hQl.out]; omega)).2
      rw [Nat.zero_add] at cq fq
      go_wp2_with (first
        | (go_at_call 166; refine Hlast.out.mono ?_; rintro _ _ ⟨rfl, rfl⟩)
        | fail)
      refine (rtimes_as p x inv q _ Hp.out hxr.1 hxr.2 hinv.1 hinv.2 Eq.out).mono ?_
      rintro _ w4 ⟨rfl, h4⟩
      have cq4 := (Hw2.out.ext h4).2 k (by rw [hQl.out]; omega)
      rw [Nat.zero_add] at cq4
      have cq5 := cq4.1
      have fq5 := cq4.2
      clear cq4 cq fq
      have hs2 := (Hw2.out.ext h4).set_ (i := k) (by rw [hQl.out]; omega) q
      have hs1 := (Hw1.out.ext h4).other (b := g2) (o := k) (v := .int .u64 q) hgne
      rw [Nat.zero_add] at hs2
      have hxs : Ext w (w4.setCell ⟨g2, k, none⟩ (.int .u64 q)) := (hxw.trans h4).setCell hg2 _
      have Hs1 := hid hs1; have Hs2 := hid hs2
      clear hs1 hs2
      go_wp2_with fail
      go_loopw [74] (fun i wz => ∃ (j : Nat) (S : List Int), i = .int .i64 j ∧ j ≤ lb ∧ Hid (S.length = la) ∧ Hid (∀ t, S.getD t 0 = if k ≤ t ∧ t < k + j then (R.getD t 0 - q * ys.getD (t - k) 0) % p else R.getD t 0) ∧ WRow wz g1 0 S ∧ WRow wz g2 0 (Q.set k q) ∧ Ext w wz) (fun i _ => lb - (intOf i).toNat)
      case atStart => exact ⟨0, R, rfl, Nat.zero_le _, hRl, hid (fun t => by rw [if_neg (by omega)]), Hs1.out, Hs2.out, hxs⟩
      case round =>
        obtain ⟨j, S, rfl, hj, hSl, hS, hz1, hz2, hxz⟩ := hrel
        clear hxs Hs1 Hs2 cq5 fq5 h4
        have Hz1 := hid hz1; have Hz2 := hid hz2
        clear hz1 hz2
        by_cases hlt : j < lb
        · obtain ⟨b, off, rfl, hb, hcell⟩ := M3.out (by omega)
          have gy := (hxz.cells _ _ hb).trans (hcell j hlt)
          have ry := Hy.out.rng.get (k := j) (by rw [Hlb.out]; exact hlt)
          have rr := hRr.out.getD hp2.1 (k + j)
          have gr := (Hz1.out.2 (k + j) (by rw [hSl.out]; omega)).1
          have fr := (Hz1.out.2 (k + j) (by rw [hSl.out]; omega)).2
          have hgz := Hz1.out.1
          rw [Nat.zero_add, hS.out, if_neg (by omega)] at gr
          rw [Nat.zero_add] at fr
          obtain ⟨y, ey⟩ : ∃ y, ys.getD j 0 = y := ⟨_, rfl⟩
          obtain ⟨r0, er0⟩ : ∃ r0, R.getD (k + j) 0 = r0 := ⟨_, rfl⟩
          rw [ey] at gy ry; rw [er0] at gr rr
          obtain ⟨s, es, hs0, hs1⟩ := name_mod (p := p) (q * y) hp2.1
          obtain ⟨r, er, hr0, hr1⟩ := name_mod (p := p) (r0 - s) hp2.1
          have Ey := hid ey; have Er0 := hid er0; have Es := hid es; have Er := hid er
          clear hcell ey er0 es er
          have i1 : (0 : Int) ≤ (j : Int) := by omega
          have i2 : (j : Int) < (lb : Int) := by omega
          go_wp2_with fail
          go_region_with (first
            | (go_at_call 165; refine (rtimes_as p q y s _ Hp.out hq0 hq1 ry.1 ry.2 Es.out).mono ?_; rintro _ w5 ⟨rfl, h5⟩; have g5 := (((Ext.refl wr).drew.trans h5).cells _ _ hgz).trans gr)
            | (go_at_call 167; refine (minus_as p r0 s r _ Hp.out rr.1 rr.2 hs0 hs1 Er.out).mono ?_; rintro _ w6 ⟨rfl, h6⟩; have c6 := (Hz1.out.ext (((Ext.refl wr).drew.trans h5).trans h6)).2 (k + j) (by rw [hSl.out]; omega); rw [Nat.zero_add] at c6; have c7 := c6.1; have f7 := c6.2; clear c6))
          all_goals
            go_wp2_with fail
            go_roundw
            case rel =>
              have hs := (Hz1.out.ext (((Ext.refl wr).drew.trans h5).trans h6)).set_ (i := k + j) (by rw [hSl.out]; omega) r
              rw [Nat.zero_add] at hs
              refine ⟨j + 1, S.set (k + j) r, by go_num, by omega, hid (by rw [List.length_set]; exact hSl.out), hid (fun t => ?_), hs, (Hz2.out.ext (((Ext.refl wr).drew.trans h5).trans h6)).other (Ne.symm hgne), (((hxz.drew).trans h5).trans h6).setCell hgw1 _⟩
              rw [set_get _ _ _ _ (by rw [hSl.out]; omega), hS.out]
              by_cases e : k + j = t
              · subst e
                rw [if_pos rfl, if_pos (by omega), Er0.out, show k + j - k = j by omega, Ey.out, ← Er.out, ← Es.out, ms_r]
              · rw [if_neg e]
                by_cases e2 : k ≤ t ∧ t < k + j
                · rw [if_pos e2, if_pos (by omega)]
                · rw [if_neg e2, if_neg (by omega)]
            case measure => simp [intOf]; omega
        · obtain rfl : lb = j := by omega
          go_wp2_with fail
          go_roundw
          case rel =>
            have hdr := div_round (xs := xs) (q := q) hp2.1 Hy.out.rng hQr.out hRr.out (k := k) (R' := S) (by rw [hQl.out]; omega) (hQ0.out k (by omega)) (fun t => by rw [Hlb.out]; exact hS.out t) he.out
            refine ⟨(k : Int) - 1, k, S, Q.set k q, by go_num, by omega, by omega, hSl, hid (by rw [List.length_set]; exact hQl.out), hid hdr.1, hid (Rng.of_get fun t ht => ?_), hid (fun t ht => ?_), hid (fun t ht => ?_), hid (fun h => absurd h (by omega)), hid (fun _ => ?_), hid hdr.2, Hz1.out, Hz2.out, hxz⟩
            · rw [set_get _ _ _ _ (by rw [hQl.out]; omega)]
              split
              · exact ⟨hq0, hq1⟩
              · exact hQr.out.getD hp2.1 t
            · rw [hS.out]
              by_cases e : k ≤ t ∧ t < k + lb
              · rw [if_pos e, show t = k + lb - 1 by omega, Ex.out, show k + lb - 1 - k = ys.length - 1 by rw [Hlb.out]; omega]
                exact Hgone.out
              · rw [if_neg e]
                exact hR0.out t (by omega)
            · rw [set_get _ _ _ _ (by rw [hQl.out]; omega), if_neg (by omega)]
              exact hQ0.out t (by omega)
            · rw [set_get _ _ _ _ (by rw [hQl.out]; omega)]
              by_cases e : k = n - 1
              · rw [if_pos e]
                intro e0
                have hxe : R = xs := hRx.out (by omega)
                have h7 := top_stays Hun.out hxr.1 hxr.2 (by rw [Eq.out]; exact e0)
                have h8 := Ex.out
                rw [h7, hxe] at h8
                refine Hx.out.top (by rw [Hla.out]; omega) ?_
                rw [Hla.out, show la - 1 = k + lb - 1 by omega]
                exact h8
              · rw [if_neg e]
                exact hQt.out (by omega)
          case measure => simp [intOf]
theorem pDiv_yes (p : Int) (v u : Value) (xs ys : List Int) (w : World) (hp : rightB p = true) (hv : Ints .u64 w v xs) (hu : Ints .u64 w u ys) (hx : Pol p xs) (hy : Pol p ys) (hl : xs.length ≤ 512 ∧ ys.length ≤ 512) (h0 : ys ≠ []) (hun : unitB p (lead ys) = true) :
    Calls Tryz.prog 146 #[.int .u64 p, v, u] w (RetDiv p xs ys w) := by
  rcases Nat.lt_or_ge xs.length ys.length with h | h
  · exact pDiv_less p v u xs ys w hp hv hu hx hy hl h hun
  · exact pDiv_more p v u xs ys w hp hv hu hx hy hl h h0 hun
end Go.Proofs.YthomeenmcajmdaaGreatDoor
