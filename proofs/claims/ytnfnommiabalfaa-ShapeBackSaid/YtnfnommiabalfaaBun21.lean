/- What the texts Sh5, Sh6, Sh7, Sh9 show, in one text. -/
import Derived.Test.YtnfnommiabalfaaSh3
import Derived.Test.YtnfnommiabalfaaBun20
import Derived.Test.YtnfnommiabalfaaShpO
import Derived.Test.YtnfnommiabalfaaBun13
import Derived.Test.YtnfnommiabalfaaBun08
import Derived.Test.YtnfnommiabalfaaBun06
import Derived.Deep.RegionHeld3
import Derived.Maps.AppendAt
/- Package shape: has a claim the shape? -/
namespace Go.Proofs.Ytnfnommiabalfaa
open Go.RowKit Go.Maps

theorem natsZ_get {l : List Nat} {k : Nat} (h : k < l.length) : (natsZ l).getD k 0 = (l.getD k 0 : Int) := by simp [natsZ, List.getD, h]
theorem natsZ_of {R : List Int} (h : ∀ k, k < R.length → 0 ≤ R.getD k 0) : natsZ (R.map Int.toNat) = R := by
  unfold natsZ
  rw [List.map_map]
  refine List.ext_getElem (by simp) fun j h1 h2 => ?_
  have := h j h2
  rw [List.getD, List.getElem?_eq_getElem h2] at this
  simp at this ⊢
  omega
theorem rises_iff {R : List Int} {rows : Int} : risesB R rows = true ↔ ∀ k, k < R.length → aheadZ R k < R.getD k 0 ∧ R.getD k 0 < rows := decide_eq_true_iff
theorem rises_pos {R : List Int} {rows : Int} (h : risesB R rows = true) : ∀ k, k < R.length → 0 ≤ R.getD k 0
  | 0, hk => by have := (rises_iff.1 h 0 hk).1; simp only [aheadZ] at this; omega
  | k + 1, hk => by
    have h1 := (rises_iff.1 h (k + 1) hk).1
    have h2 := rises_pos h k (by omega)
    simp only [aheadZ] at h1
    omega
theorem rises_lt {R : List Int} {rows : Int} (h : risesB R rows = true) {j : Nat} : ∀ k, j < k → k < R.length → R.getD j 0 < R.getD k 0
  | 0, h1, _ => absurd h1 (Nat.not_lt_zero _)
  | k + 1, h1, hk => by
    have h2 := (rises_iff.1 h (k + 1) hk).1
    simp only [aheadZ] at h2
    by_cases e : j = k
    · rw [e]; exact h2
    · have := rises_lt (j := j) h k (by omega) (by omega)
      omega
theorem fits_iff {rows cols : Int} {R : List Int} {C U : List (List Int)} : fitsB rows cols R C U = true ↔ (C.length : Int) = rows ∧ (∀ l ∈ C, l.length = R.length) ∧ U.length = R.length ∧ ∀ l ∈ U, (l.length : Int) = cols := by
  unfold fitsB
  rw [Bool.and_eq_true, Bool.and_eq_true, Bool.and_eq_true, decide_eq_true_iff, decide_eq_true_iff, lensB_iff, lensB_iff]
  constructor
  · rintro ⟨h1, h2, h3, h4⟩
    exact ⟨h1, fun l hl => by have := h2 l hl; omega, h3, h4⟩
  · rintro ⟨h1, h2, h3, h4⟩
    exact ⟨h1, fun l hl => by have := h2 l hl; omega, h3, h4⟩
/-- what a claim that has the shape must be -/
theorem shpZ_parts {p rows cols : Int} {R K : List Int} {C U : List (List Int)} (hC : ∀ l ∈ C, U64s l) (hU : ∀ l ∈ U, U64s l) :
    ShpZ p rows cols R K C U ↔ sideB rows = true ∧ sideB cols = true ∧ ((R.length : Int) ≤ rows ∧ (R.length : Int) ≤ cols) ∧ risesB R rows = true ∧ fitsB rows cols R C U = true ∧ hasB p (C ++ U).flatten = true ∧ restsB K U = true ∧ tknB R C = true := by
  constructor
  · rintro ⟨m, n, rs, ks, rfl, rfl, hm, hn, hp, rfl, rfl, hu, hu2, s⟩
    have lR : (natsZ rs).length = U.length := by rw [natsZ_len, s.lr]
    have lK : (natsZ ks).length = U.length := by rw [natsZ_len, s.lk]
    have gR : ∀ k, k < U.length → (natsZ rs).getD k 0 = (rs.getD k 0 : Int) := fun k hk => natsZ_get (by rw [s.lr]; exact hk)
    have gK : ∀ k, k < U.length → (natsZ ks).getD k 0 = (ks.getD k 0 : Int) := fun k hk => natsZ_get (by rw [s.lk]; exact hk)
    have lead : ∀ k, k < U.length → leadE (U.getD k []) = ks.getD k 0 := fun k hk => by
      obtain ⟨a1, a2, a3, a4, a5⟩ := s.row k hk
      exact leadE_eq (by omega) a4 a5
    refine ⟨by simp [sideB]; omega, by simp [sideB]; omega, ⟨by omega, by omega⟩, rises_iff.2 fun k hk => ?_, fits_iff.2 ⟨by rw [s.lc], fun l hl => ?_, lR.symm, fun l hl => ?_⟩, hasB_mk hp fun x hx => ?_, restsB_iff.2 ⟨lK, fun k hk => ?_⟩, tknB_iff.2 fun k hk => ?_⟩
    · rw [lR] at hk
      rw [gR k hk]
      have := s.low k hk
      refine ⟨?_, by omega⟩
      cases k with
      | zero => simp only [aheadZ]; omega
      | succ k =>
        simp only [aheadZ]
        rw [gR k (by omega)]
        have := s.inc k (k + 1) (by omega) hk
        omega
    · obtain ⟨i, hi, rfl⟩ := List.getElem_of_mem hl
      have := (s.crow i (by rw [← s.lc]; exact hi)).1
      rw [List.getD, List.getElem?_eq_getElem hi] at this
      rw [lR]; exact this
    · obtain ⟨i, hi, rfl⟩ := List.getElem_of_mem hl
      have := (s.row i hi).1
      rw [List.getD, List.getElem?_eq_getElem hi] at this
      exact_mod_cast this
    · obtain ⟨l, hl, hx⟩ := List.mem_flatten.1 hx
      rcases List.mem_append.1 hl with hl | hl
      · obtain ⟨i, hi, rfl⟩ := List.getElem_of_mem hl
        have := (s.crow i (by rw [← s.lc]; exact hi)).2
        rw [List.getD, List.getElem?_eq_getElem hi] at this
        exact (this x hx).2
      · obtain ⟨i, hi, rfl⟩ := List.getElem_of_mem hl
        have := (s.row i hi).2.1
        rw [List.getD, List.getElem?_eq_getElem hi] at this
        exact (this x hx).2
    · obtain ⟨a1, a2, a3, a4, a5⟩ := s.row k hk
      refine ⟨by rw [lead k hk]; omega, by rw [gK k hk, lead k hk], fun j hj => ?_⟩
      rw [lead j (by omega)]
      exact s.zero k j hj hk
    · rw [lR] at hk
      unfold TakenAt
      rw [gR k hk, Int.toNat_natCast]
      exact ⟨s.one k hk, fun i hi => s.ahead k i hk hi⟩
  · rintro ⟨h1, h2, ⟨h3, h3'⟩, h4, h5, h6, h7, h8⟩
    obtain ⟨f1, f2, f3, f4⟩ := fits_iff.1 h5
    obtain ⟨k1, k2⟩ := restsB_iff.1 h7
    obtain ⟨p1, p2⟩ := hasB_true h6
    have h8' := tknB_iff.1 h8
    simp only [sideB, decide_eq_true_eq] at h1 h2
    have hR := rises_pos h4
    have hK : ∀ k, k < K.length → 0 ≤ K.getD k 0 := fun k hk => by rw [(k2 k (by omega)).2.1]; omega
    have gR : ∀ k, k < R.length → (((R.map Int.toNat).getD k 0 : Nat) : Int) = R.getD k 0 := fun k hk => by
      have := hR k hk
      rw [show (R.map Int.toNat).getD k 0 = (R.getD k 0).toNat by simp [List.getD, hk]]
      omega
    have gK : ∀ k, k < K.length → (((K.map Int.toNat).getD k 0 : Nat) : Int) = K.getD k 0 := fun k hk => by
      have := hK k hk
      rw [show (K.map Int.toNat).getD k 0 = (K.getD k 0).toNat by simp [List.getD, hk]]
      omega
    have lead : ∀ k, k < U.length → (K.map Int.toNat).getD k 0 = leadE (U.getD k []) := fun k hk => by
      have h := gK k (by omega)
      rw [(k2 k hk).2.1] at h
      omega
    refine ⟨rows.toNat, cols.toNat, R.map Int.toNat, K.map Int.toNat, by omega, by omega, by omega, by omega, p1, (natsZ_of hR).symm, (natsZ_of hK).symm, by omega, by omega, ⟨by rw [List.length_map, f3], by rw [List.length_map, k1], rfl, by omega, ?_, ?_, ?_, ?_, ?_, ?_, ?_⟩⟩
    · intro j k hjk hk
      have q1 := gR j (by omega)
      have q2 := gR k (by omega)
      have := rises_lt h4 k hjk (by omega)
      omega
    · intro k hk
      have q1 := gR k (by omega)
      have := (rises_iff.1 h4 k (by omega)).2
      omega
    · intro k hk
      have hm := getD_mem ([] : List Int) hk
      have hl := f4 _ hm
      have hr := (k2 k hk).1
      rw [lead k hk]
      exact ⟨by omega, fun x hx => ⟨(hU _ hm x hx).1, p2 x (List.mem_flatten.2 ⟨_, List.mem_append_right _ hm, hx⟩)⟩, by omega, leadE_ne hr, fun j hj => leadE_zero hj⟩
    · intro k j hjk hk
      rw [lead j (by omega)]
      exact (k2 k hk).2.2 j hjk
    · intro i hi
      have hm := getD_mem ([] : List Int) (show i < C.length by omega)
      exact ⟨by rw [f2 _ hm, f3], fun x hx => ⟨(hC _ hm x hx).1, p2 x (List.mem_flatten.2 ⟨_, List.mem_append_left _ hm, hx⟩)⟩⟩
    · intro k hk
      have := (h8' k (by omega)).1
      rwa [show (R.getD k 0).toNat = (R.map Int.toNat).getD k 0 by have := gR k (by omega); omega] at this
    · intro k i hk hi
      have := (h8' k (by omega)).2 i
      rw [show (R.getD k 0).toNat = (R.map Int.toNat).getD k 0 by have := gR k (by omega); omega] at this
      exact this hi
end Go.Proofs.Ytnfnommiabalfaa
/- Package shape: Has. -/
namespace Go.Proofs.Ytnfnommiabalfaa
open Go.RowKit Go.Maps

set_option maxRecDepth 100000 in
set_option maxHeartbeats 2000000 in
theorem shHas (p : Int) (R K : List Int) (C U : List (List Int)) (rv kv cv uv : Value) (w : World) (rows cols : Int) (h0 : 0 ≤ p) (h1 : p ≤ 18446744073709551615) (hc : ClmR w rv kv cv uv R K C U) (hC : ∀ l ∈ C, U64s l) (hU : ∀ l ∈ U, U64s l) :
    Calls Try.prog 12 #[.int .u64 p, .agg #[rv, kv, cv, uv], .int .i64 rows, .int .i64 cols] w (Ret (.bool (shpB p rows cols R K C U)) w) := by
  have Zy := hid fun h => shpB_iff.2 ((shpZ_parts (p := p) (rows := rows) (cols := cols) (R := R) (K := K) hC hU).2 h)
  have Zn := hid fun (h : ¬ _) => shpB_no (fun q => h ((shpZ_parts (p := p) (rows := rows) (cols := cols) (R := R) (K := K) hC hU).1 q))
  obtain ⟨Z, hZ⟩ : ∃ Z, shpB p rows cols R K C U = Z := ⟨_, rfl⟩
  rw [hZ] at Zy Zn ⊢
  have bnd : sideB rows = true → sideB cols = true → (R.length : Int) ≤ rows ∧ (R.length : Int) ≤ cols → fitsB rows cols R C U = true → (∀ l ∈ C, l.length = R.length) ∧ (∀ l ∈ U, l.length = cols.toNat) ∧ C.length ≤ 64 ∧ U.length ≤ 64 ∧ R.length ≤ 64 ∧ cols.toNat ≤ 64 ∧ (C.length : Int) = rows := fun q1 q2 q3 q4 => by
    obtain ⟨f1, f2, f3, f4⟩ := fits_iff.1 q4
    simp only [sideB, decide_eq_true_eq] at q1 q2
    exact ⟨f2, fun l hl => by have := f4 l hl; omega, by omega, by omega, by omega, by omega, f1⟩
  have C1 := hid fun n W => shSide n W
  have C4 := hid fun (W : World) (hW : Ext w W) => shRises R rows rv W (hc.r.ext hW)
  have C5 := hid fun (W : World) (hW : Ext w W) => shFits rows cols R K C U rv kv cv uv W (hc.ext hW)
  have C6 := hid fun (q1 : sideB rows = true) (q2 : sideB cols = true) (q3 : (R.length : Int) ≤ rows ∧ (R.length : Int) ≤ cols) (q4 : fitsB rows cols R C U = true) (W : World) (hW : Ext w W) => (by
    obtain ⟨f1, f2, f3, f4, f5, f6, f7⟩ := bnd q1 q2 q3 q4
    have e1 := flat_len f1
    have e2 := flat_len f2
    have b1 : C.length * R.length ≤ 64 * 64 := Nat.mul_le_mul f3 f5
    have b2 : U.length * cols.toNat ≤ 64 * 64 := Nat.mul_le_mul f4 f6
    exact shNumbersOf p R K C U rv kv cv uv W h0 h1 (hc.ext hW) hC hU (by rw [List.flatten_append, List.length_append, e1, e2]; omega) (by omega) : Calls Try.prog 35 #[.int .u64 p, .agg #[rv, kv, cv, uv]] W (Ret (.bool (hasB p (C ++ U).flatten)) W))
  have C7 := hid fun (q1 : sideB rows = true) (q2 : sideB cols = true) (q3 : (R.length : Int) ≤ rows ∧ (R.length : Int) ≤ cols) (q4 : fitsB rows cols R C U = true) (W : World) (hW : Ext w W) => (by
    obtain ⟨f1, f2, f3, f4, f5, f6, f7⟩ := bnd q1 q2 q3 q4
    exact shRests cols.toNat R K C U rv kv cv uv W (hc.ext hW) (by omega) (by omega) (fun l hl => ⟨f2 l hl, hU l hl⟩) : Calls Try.prog 36 #[.agg #[rv, kv, cv, uv]] W (Ret (.bool (restsB K U)) W))
  have C8 := hid fun (q1 : sideB rows = true) (q2 : sideB cols = true) (q3 : (R.length : Int) ≤ rows ∧ (R.length : Int) ≤ cols) (q5 : risesB R rows = true) (q4 : fitsB rows cols R C U = true) (W : World) (hW : Ext w W) => (by
    obtain ⟨f1, f2, f3, f4, f5, f6, f7⟩ := bnd q1 q2 q3 q4
    exact shTaken R K C U rv kv cv uv W (hc.ext hW) (fun k hk => ⟨rises_pos q5 k hk, by have := (rises_iff.1 q5 k hk).2; omega⟩) f1 : Calls Try.prog 37 #[.agg #[rv, kv, cv, uv]] W (Ret (.bool (tknB R C)) W))
  obtain ⟨B1, e1⟩ : ∃ B, sideB rows = B := ⟨_, rfl⟩
  obtain ⟨B2, e2⟩ : ∃ B, sideB cols = B := ⟨_, rfl⟩
  obtain ⟨B4, e4⟩ : ∃ B, risesB R rows = B := ⟨_, rfl⟩
  obtain ⟨B5, e5⟩ : ∃ B, fitsB rows cols R C U = B := ⟨_, rfl⟩
  obtain ⟨B6, e6⟩ : ∃ B, hasB p (C ++ U).flatten = B := ⟨_, rfl⟩
  obtain ⟨B7, e7⟩ : ∃ B, restsB K U = B := ⟨_, rfl⟩
  obtain ⟨B8, e8⟩ : ∃ B, tknB R C = B := ⟨_, rfl⟩
  rw [e1] at C6 C7 C8
  rw [e2] at C6 C7 C8
  rw [e4] at C4 C8
  rw [e5] at C5 C6 C7 C8
  rw [e6] at C6
  rw [e7] at C7
  rw [e8] at C8
  rw [e1, e2, e4, e5, e6, e7, e8] at Zy Zn
  have C1r := hid (fun W => C1.out rows W)
  have C1c := hid (fun W => C1.out cols W)
  rw [e1] at C1r; rw [e2] at C1c
  clear e1 e2 e4 e5 e6 e7 e8 hZ hC hU bnd C1
  obtain ⟨h1', h2', h3', h4'⟩ := hc
  obtain ⟨a1, c1, rfl, -, -, -⟩ := h1'
  obtain ⟨a2, c2, rfl, -, -, -⟩ := h2'
  obtain ⟨a3, c3, rfl, -, -, -⟩ := h3'
  obtain ⟨a4, c4, rfl, -, -, -⟩ := h4'
  have hb := hid (show Blk (w.alloc (.cells #[.slice a1 R.length c1, .slice a2 K.length c2, .slice a3 C.length c3, .slice a4 U.length c4] 29)) w.heap.size 29 #[.slice a1 R.length c1, .slice a2 K.length c2, .slice a3 C.length c3, .slice a4 U.length c4] from Blk.new w _ _)
  have hx := hid (show Ext w (w.alloc (.cells #[.slice a1 R.length c1, .slice a2 K.length c2, .slice a3 C.length c3, .slice a4 U.length c4] 29)) from (Ext.refl w).alloc _)
  go_enter Try.func12, Try.ntmps12
  go_wp2_with fail
  refine (C1r.out _).mono ?_
  rintro _ _ ⟨rfl, rfl⟩
  cases B1
  · have N := hid (Zn.out (by simp))
    go_wp2_with fail
    go_ret
    exact ⟨ret_bool N.out.symm, hx.out⟩
  go_wp2_with fail
  refine (C1c.out _).mono ?_
  rintro _ _ ⟨rfl, rfl⟩
  cases B2
  · have N := hid (Zn.out (by simp))
    go_wp2_with fail
    go_ret
    exact ⟨ret_bool N.out.symm, hx.out⟩
  obtain ⟨b0, b1, b2, b3⟩ := hb.out.at4
  by_cases c3' : (R.length : Int) ≤ rows ∧ (R.length : Int) ≤ cols
  case neg =>
    have N := hid (Zn.out (fun h => c3' h.2.2.1))
    have d3 : decide ((R.length : Int) ≤ min rows cols) = false := decide_eq_false (by omega)
    clear c3'
    go_wp2_with fail
    go_ret
    exact ⟨ret_bool N.out.symm, hx.out⟩
  have d3 : decide ((R.length : Int) ≤ min rows cols) = true := decide_eq_true (by omega)
  have Hc := hid c3'
  clear c3'
  go_wp2_with fail
  refine (C4.out _ hx.out).mono ?_
  rintro _ w1 ⟨rfl, x1⟩
  clear b0 b1 b2 b3
  have y1 := hid (hx.out.trans x1)
  cases B4
  · have N := hid (Zn.out (by simp))
    go_wp2_with fail
    go_ret
    exact ⟨ret_bool N.out.symm, y1.out⟩
  obtain ⟨b0, b1, b2, b3⟩ := (hb.out.ext x1).at4
  go_wp2_with fail
  refine (C5.out _ y1.out).mono ?_
  rintro _ w2 ⟨rfl, x2⟩
  clear b0 b1 b2 b3
  have y2 := hid (y1.out.trans x2)
  cases B5
  · have N := hid (Zn.out (by simp))
    go_wp2_with fail
    go_ret
    exact ⟨ret_bool N.out.symm, y2.out⟩
  obtain ⟨b0, b1, b2, b3⟩ := (hb.out.ext (x1.trans x2)).at4
  go_wp2_with fail
  refine (C6.out (by trivial) (by trivial) Hc.out (by trivial) _ y2.out).mono ?_
  rintro _ w3 ⟨rfl, x3⟩
  clear b0 b1 b2 b3
  have y3 := hid (y2.out.trans x3)
  cases B6
  · have N := hid (Zn.out (by simp))
    go_wp2_with fail
    go_ret
    exact ⟨ret_bool N.out.symm, y3.out⟩
  obtain ⟨b0, b1, b2, b3⟩ := (hb.out.ext ((x1.trans x2).trans x3)).at4
  go_wp2_with fail
  refine (C7.out (by trivial) (by trivial) Hc.out (by trivial) _ y3.out).mono ?_
  rintro _ w4 ⟨rfl, x4⟩
  clear b0 b1 b2 b3
  have y4 := hid (y3.out.trans x4)
  cases B7
  · have N := hid (Zn.out (by simp))
    go_wp2_with fail
    go_ret
    exact ⟨ret_bool N.out.symm, y4.out⟩
  obtain ⟨b0, b1, b2, b3⟩ := (hb.out.ext (((x1.trans x2).trans x3).trans x4)).at4
  go_wp2_with fail
  refine (C8.out (by trivial) (by trivial) Hc.out (by trivial) (by trivial) _ y4.out).mono ?_
  rintro _ w5 ⟨rfl, x5⟩
  have y5 := hid (y4.out.trans x5)
  clear b0 b1 b2 b3
  cases B8
  · have N := hid (Zn.out (by simp))
    go_wp2_with fail
    go_ret
    exact ⟨ret_bool N.out.symm, y5.out⟩
  have N := hid (Zy.out ⟨by trivial, by trivial, Hc.out, by trivial, by trivial, by trivial, by trivial, by trivial⟩)
  go_wp2_with fail
  go_ret
  exact ⟨ret_bool N.out.symm, y5.out⟩
end Go.Proofs.Ytnfnommiabalfaa
/- Package shape: times; Looks. -/
namespace Go.Proofs.Ytnfnommiabalfaa
open Go.RowKit Go.Maps

/-- each list as a dot product with a vector -/
def dotsL (p : Int) (ls : List (List Int)) (x : List Int) : List Int := tab ls.length fun i => dotZ (ls.getD i []) x % p
theorem dotsL_len (p : Int) (ls : List (List Int)) (x : List Int) : (dotsL p ls x).length = ls.length := tab_len _ _
theorem dotsL_rng {p : Int} (hp : 2 ≤ p) (ls : List (List Int)) (x : List Int) : Rng p (dotsL p ls x) := tab_rng fun _ _ => mod_range _ hp
theorem dotsL_times {p : Int} {m n : Nat} {ls : List (List Int)} {x : List Int} (hm : ls.length = m) (h : ∀ l ∈ ls, l.length = n) (hx : x.length = n) : dotsL p ls x = timesL p m n ls.flatten x := by
  unfold dotsL timesL
  rw [hm]
  refine tab_congr fun i hi => ?_
  have hi' : i < ls.length := by omega
  rw [dv_dotZ (h _ (getD_mem [] hi')) hx]
  exact dv_congr (fun k hk => (flat_get h hi' hk).symm) fun _ _ => rfl

set_option maxRecDepth 100000 in
set_option maxHeartbeats 1000000 in
theorem shTimes (p : Int) (n : Nat) (v u : Value) (ls : List (List Int)) (x : List Int) (w : World) (hp : rightB p = true) (hv : UsL w v ls) (hu : Ints .u64 w u x) (hls : ∀ l ∈ ls, l.length = n ∧ Rng p l) (hx : Rng p x) (hxl : x.length = n) (hm : ls.length ≤ 64) :
    Calls Try.prog 40 #[.int .u64 p, v, u] w fun e w' => ∃ y, e = .returned y ∧ Ints .u64 w' y (dotsL p ls x) ∧ Ext w w' := by
  have hp2 := rightB_true hp
  have CD := hid fun (k : Nat) (hk : k < ls.length) (z : Int) (hz : dotZ (ls.getD k []) x % p = z) (y : Value) (W : World) (hW : Ext w W) (hy : Ints .u64 W y (ls.getD k [])) =>
    dot_as p z y u (ls.getD k []) x W hy (hu.ext hW) ((hls _ (getD_mem [] hk)).2.u64 hp2.2) (hx.u64 hp2.2) (by rw [(hls _ (getD_mem [] hk)).1, hxl]) ((hls _ (getD_mem [] hk)).2.has hp) (hx.has hp) hz
  obtain ⟨F, hF⟩ : ∃ F : Nat → Int, (fun i => dotZ (ls.getD i []) x % p) = F := ⟨_, rfl⟩
  have HF := hid (fun i => (congrFun hF i : dotZ (ls.getD i []) x % p = F i))
  unfold dotsL
  rw [hF]
  obtain ⟨a, cap, rfl, k1, k2, k3⟩ := hv
  obtain ⟨au, cu, rfl, -, -, -⟩ := hu
  have K3 := hid k3
  obtain ⟨m, em⟩ : ∃ m, ls.length = m := ⟨_, rfl⟩
  rw [em] at k1 K3 CD hm ⊢
  have hmk := make_ints (P := Try.prog) 23 22 .u64 8 (by omega) (by kernel_rfl) (by kernel_rfl) m m (Nat.le_refl _) (by omega)
  have hrl := hid (List.length_replicate (n := m) (a := (0 : Int)))
  have hrow := hid (WRow.made (w := w) (t := 22) (n := m) rfl)
  have hx2 : Ext w (w.alloc (.cells (madeCells #[Value.int .u64 0] m) 22)) := (Ext.refl w).alloc _
  clear hF k3 em hls hx hxl hp
  go_enter Try.func40, Try.ntmps40
  go_wp2_with fail
  obtain ⟨g, hg⟩ : ∃ g, w.heap.size = g := ⟨_, rfl⟩
  have hgw : w.heap.size ≤ g := by omega
  obtain ⟨w2, hw2⟩ : ∃ w2, w.alloc (.cells (madeCells #[Value.int .u64 0] m) 22) = w2 := ⟨_, rfl⟩
  rw [hg, hw2] at hrow
  rw [hw2] at hx2
  rw [hg, hw2]
  clear hmk hw2
  go_loopw [15] (fun i wr => ∃ (k : Nat) (l : List Int), i = .int .i64 k ∧ k ≤ m ∧ Hid (l.length = m) ∧ Hid (∀ j, l.getD j 0 = if j < k then F j else 0) ∧ Hid (WRow wr g 0 l) ∧ Ext w wr) (fun i _ => m - (intOf i).toNat)
  case atStart => exact ⟨0, _, rfl, Nat.zero_le _, hrl, hid (fun j => by rw [replicate_get]; simp), hrow, hx2⟩
  case round =>
    obtain ⟨k, l, rfl, hk, hln, hl2, Hrw, hxw⟩ := hrel
    clear hx2
    by_cases hlt : k < m
    · obtain ⟨b, off, rfl, hb, hc⟩ := K3.out (by omega)
      obtain ⟨y, gy, iy⟩ := hc k hlt
      replace gy := (hxw.cells _ _ hb).trans gy
      replace iy := hid (iy.ext hxw)
      have hfk := HF.out k
      obtain ⟨z, hz⟩ : ∃ z, F k = z := ⟨_, rfl⟩
      rw [hz] at hfk
      have CD2 := hid (CD.out k hlt z hfk y wr hxw iy.out)
      have Hz := hid hz
      have iy2 := iy.out
      obtain ⟨ay, cy, rfl, -, -, -⟩ := iy2
      have g2 := hid fun (W : World) (hW : Ext wr W) => ((Hrw.out.ext hW).2 k (by rw [hln.out]; omega))
      clear hz hfk hc
      go_wp2_with (go_at_call 43; refine CD2.out.mono ?_; rintro _ w4 ⟨rfl, x4⟩; obtain ⟨g3, f3⟩ := g2.out w4 x4; rw [Nat.zero_add] at g3 f3)
      go_roundw
      case rel =>
        have hs := (Hrw.out.ext x4).set_ (i := k) (by rw [hln.out]; omega) z
        rw [Nat.zero_add] at hs
        refine ⟨k + 1, l.set k z, by go_num, by omega, hid (by rw [List.length_set]; exact hln.out), hid (fun j => ?_), hid hs, (hxw.trans x4).setCell (p := ⟨g, k, none⟩) hgw _⟩
        rw [set_get l k j z (by rw [hln.out]; omega), hl2.out]
        by_cases e : k = j
        · subst e
          rw [if_pos rfl, if_pos (by omega), Hz.out]
        · rw [if_neg e]
          by_cases e2 : j < k
          · rw [if_pos e2, if_pos (by omega)]
          · rw [if_neg e2, if_neg (by omega)]
      case measure => simp [intOf]; omega
    · obtain rfl : m = k := by omega
      go_wp2_with fail
      go_ret
      have e : l = tab m F := tab_of hln.out fun j hj => by rw [hl2.out, if_pos hj]
      exact ⟨_, rfl, e ▸ Hrw.out.ints' hln.out (Nat.le_refl _) (by omega), hxw⟩

set_option maxRecDepth 100000 in
set_option maxHeartbeats 2000000 in
theorem shLooks_yes (p : Int) (R K : List Int) (C U : List (List Int)) (rv kv cv uv : Value) (w : World) (m n : Nat) (v vx : Value) (xs x : List Int) (ok : MatOk p m n xs) (hs : ShpZ p m n R K C U) (hc : ClmR w rv kv cv uv R K C U) (hv : Ints .u64 w v xs) (hvx : Ints .u64 w vx x) (hx : Rng p x) (hl : x.length = n) :
    Calls Try.prog 13 #[.int .u64 p, matV m n v, .agg #[rv, kv, cv, uv], vx] w (Ret (.tuple #[.bool (shlB p m n xs C U x), .int .i64 0]) w) := by
  have hp2 := rightB_true ok.hp
  obtain ⟨m', n', e1, e2, co, lr, lk⟩ := hs.ok
  have e1' : m = m' := by omega
  have e2' : n = n' := by omega
  subst e1'; subst e2'
  have CT := hid fun (W : World) (hW : Ext w W) => mxTimes_yes p m n v vx xs x W ok (hv.ext hW) (hvx.ext hW) hx hl
  have CH := hid fun (W : World) (hW : Ext w W) => shHas p R K C U rv kv cv uv W m n (by omega) (by omega) (hc.ext hW) (fun l hl => (co.c l hl).2.u64 hp2.2) (fun l hl => (co.u l hl).2.u64 hp2.2)
  rw [shpB_iff.2 hs] at CH
  have C1 := hid fun (W : World) (hW : Ext w W) => shTimes p n uv vx U x W ok.hp (hc.u.ext hW) (hvx.ext hW) co.u hx hl co.hu
  have C2 := hid fun (W : World) (hW : Ext w W) (y : Value) (hy : Ints .u64 W y (dotsL p U x)) => shTimes p U.length cv y C (dotsL p U x) W ok.hp (hc.c.ext hW) hy co.c (dotsL_rng hp2.1 U x) (dotsL_len p U x) (by rw [co.lc]; exact co.hm.2)
  have CE := hid fun (W : World) (y z : Value) (hy : Ints .u64 W y (dotsL p C (dotsL p U x))) (hz : Ints .u64 W z (timesL p m n xs x)) => equal_any y z _ _ W hy hz
  have eS : shlB p m n xs C U x = decide (dotsL p C (dotsL p U x) = timesL p m n xs x) := by
    unfold shlB looksB
    rw [dotsL_times (m := m) (n := U.length) co.lc (fun l hl => (co.c l hl).1) (dotsL_len p U x), dotsL_times (m := U.length) (n := n) rfl (fun l hl => (co.u l hl).1) hl]
  rw [eS]
  obtain ⟨Z, hZ⟩ : ∃ Z, decide (dotsL p C (dotsL p U x) = timesL p m n xs x) = Z := ⟨_, rfl⟩
  rw [hZ] at CE ⊢
  obtain ⟨Y1, h1⟩ : ∃ Y, dotsL p U x = Y := ⟨_, rfl⟩
  rw [h1] at C1 C2 CE
  obtain ⟨Y2, h2⟩ : ∃ Y, dotsL p C Y1 = Y := ⟨_, rfl⟩
  rw [h2] at C2 CE
  obtain ⟨Y3, h3⟩ : ∃ Y, timesL p m n xs x = Y := ⟨_, rfl⟩
  rw [h3] at CT CE
  have hb2 := hid (boxes2 w 25 29 #[.int .i64 (m : Int), .int .i64 (n : Int), v] #[rv, kv, cv, uv])
  clear eS hZ h1 h2 h3 e1 e2 lr lk hs hx hl ok co
  obtain ⟨q1, q2, q3, q4⟩ := hc
  obtain ⟨a1, c1, rfl, -, -, -⟩ := q1
  obtain ⟨a2, c2, rfl, -, -, -⟩ := q2
  obtain ⟨a3, c3, rfl, -, -, -⟩ := q3
  obtain ⟨a4, c4, rfl, -, -, -⟩ := q4
  obtain ⟨a5, c5, rfl, -, -, -⟩ := hv
  obtain ⟨a6, c6, rfl, -, -, -⟩ := hvx
  unfold matV at CT
  unfold matV
  have hx2 := hid hb2.out.2.2
  go_enter Try.func13, Try.ntmps13
  obtain ⟨b0, b1, b2⟩ := hb2.out.1.at3
  obtain ⟨d0, d1, d2, d3⟩ := hb2.out.2.1.at4
  go_wp2_with fail
  refine (CT.out _ hx2.out).mono ?_
  rintro _ w1 ⟨y1, rfl, I1, x1⟩
  have HI1 := hid I1
  obtain ⟨a7, c7, rfl, -, -, -⟩ := I1
  clear b0 b1 b2 d0 d1 d2 d3
  obtain ⟨b0, b1, b2⟩ := (hb2.out.1.ext x1).at3
  obtain ⟨d0, d1, d2, d3⟩ := (hb2.out.2.1.ext x1).at4
  go_wp2_with fail
  refine (CH.out _ (hx2.out.trans x1)).mono ?_
  rintro _ w2 ⟨rfl, x2⟩
  clear b0 b1 b2 d0 d1 d2 d3
  have fs := hid fun (W : World) (hW : Ext w2 W) => (hb2.out.2.1.ext ((x1.trans x2).trans hW)).at4
  obtain ⟨d0, d1, d2, d3⟩ := fs.out _ (Ext.refl w2)
  have y2 := hid (hx2.out.trans (x1.trans x2))
  have HI2 := hid (HI1.out.ext x2)
  go_wp2_with fail
  go_region_held3 (fun w' => w'.cell? ⟨w.heap.size + 1, 0, none⟩ = some (.slice a1 R.length c1) ∧ w'.cell? ⟨w.heap.size + 1, 1, none⟩ = some (.slice a2 K.length c2) ∧ w'.cell? ⟨w.heap.size + 1, 2, none⟩ = some (.slice a3 C.length c3) ∧ w'.cell? ⟨w.heap.size + 1, 3, none⟩ = some (.slice a4 U.length c4))
    (first | assumption | exact fs.out _ ((Ext.refl w2).drew) | exact fs.out _ (((Ext.refl w2).drew).trans x5) | exact fs.out _ ((((Ext.refl w2).drew).trans x5).trans x6) | exact fs.out _ (((((Ext.refl w2).drew).trans x5).trans x6).trans x7))
    ((first
      | (go_at_call 39; refine (CE.out _ _ _ HI6.out (HI2.out.ext ((((Ext.refl w2).drew).trans x5).trans x6))).mono ?_; rintro _ w7 ⟨rfl, x7⟩)
      | (go_at_call 40; have t := x5; clear t; refine (C2.out _ (y2.out.trans (((Ext.refl w2).drew).trans x5)) _ HI5.out).mono ?_; rintro _ w6 ⟨y6, rfl, I6, x6⟩; have HI6 := hid I6; obtain ⟨a9, c9, rfl, -, -, -⟩ := I6)
      | (go_at_call 40; refine (C1.out _ (y2.out.trans ((Ext.refl w2).drew))).mono ?_; rintro _ w5 ⟨y5, rfl, I5, x5⟩; have HI5 := hid I5; obtain ⟨a8, c8, rfl, -, -, -⟩ := I5)))
  go_wp2_with fail
  go_ret2
  exact ⟨rfl, y2.out.trans (((((Ext.refl w2).drew).trans x5).trans x6).trans x7)⟩

set_option maxRecDepth 100000 in
set_option maxHeartbeats 2000000 in
theorem shLooks_no (p : Int) (R K : List Int) (C U : List (List Int)) (rv kv cv uv : Value) (w : World) (m n : Nat) (v vx : Value) (xs x : List Int) (ok : MatOk p m n xs) (_hs : ShpZ p m n R K C U) (hc : ClmR w rv kv cv uv R K C U) (hv : Ints .u64 w v xs) (hvx : Ints .u64 w vx x) (hx : U64s x) (hl : vecB p n x = false) :
    Calls Try.prog 13 #[.int .u64 p, matV m n v, .agg #[rv, kv, cv, uv], vx] w (Ret (.tuple #[.bool false, .int .i64 1]) w) := by
  have hp2 := rightB_true ok.hp
  have CT := hid fun (W : World) (hW : Ext w W) => mxTimes_no p m n v vx xs x W (by omega) (by omega) (hv.ext hW) ok.u64 (hvx.ext hW) hx (by rw [hl, Bool.and_false])
  have hb2 := hid (boxes2 w 25 29 #[.int .i64 (m : Int), .int .i64 (n : Int), v] #[rv, kv, cv, uv])
  clear hx hl ok
  obtain ⟨q1, q2, q3, q4⟩ := hc
  obtain ⟨a1, c1, rfl, -, -, -⟩ := q1
  obtain ⟨a2, c2, rfl, -, -, -⟩ := q2
  obtain ⟨a3, c3, rfl, -, -, -⟩ := q3
  obtain ⟨a4, c4, rfl, -, -, -⟩ := q4
  obtain ⟨a5, c5, rfl, -, -, -⟩ := hv
  obtain ⟨a6, c6, rfl, -, -, -⟩ := hvx
  unfold matV at CT
  unfold matV
  have hx2 := hid hb2.out.2.2
  go_enter Try.func13, Try.ntmps13
  obtain ⟨b0, b1, b2⟩ := hb2.out.1.at3
  obtain ⟨d0, d1, d2, d3⟩ := hb2.out.2.1.at4
  go_wp2_with fail
  refine (CT.out _ hx2.out).mono ?_
  rintro _ w1 ⟨rfl, x1⟩
  go_wp2_with fail
  go_ret2
  exact ⟨rfl, hx2.out.trans x1⟩
end Go.Proofs.Ytnfnommiabalfaa
/- Package shape: Numbers. -/
namespace Go.Proofs.Ytnfnommiabalfaa
open Go.RowKit Go.Maps

theorem own_oneU (w : World) (x : Int) (base : Nat) (hb : base ≤ w.heap.size) : (w.alloc (.cells #[.int .u64 x] 22)).ownsRow base 22 1 (.slice (some ⟨w.heap.size, 0, none⟩) 1 1) 1 ([x].map (Value.int .u64)) :=
  ⟨rfl, .inr ⟨w.heap.size, 1, #[.int .u64 x], rfl, hb, heap_alloc_new w _, Nat.le_refl _, by unfold maxLen; omega, rfl, rfl⟩⟩
/-- slices.Concat of rows of ints -/
theorem catI_any (v : Value) (us : List Value) (ls : List (List Int)) (w : World) (hv : Vals w v us) (hl : us.length = ls.length) (hr : ∀ j x, us[j]? = some x → Ints .i64 w x (ls.getD j [])) (hn : ls.flatten.length ≤ 1000000) :
    Calls Try.prog 54 #[v] w fun e w' => ∃ v', e = .returned v' ∧ w'.ownsRow w.heap.size 3 1 v' ls.flatten.length (ls.flatten.map (Value.int .i64)) ∧ Ext w w' := by
  have ef : (ls.map fun l => l.map (Value.int .i64)).flatten = ls.flatten.map (Value.int .i64) := by rw [List.map_flatten]
  have := concatI v us (ls.map fun l => l.map (Value.int .i64)) w hv ⟨by rw [hl, List.length_map], fun j x hj => by
    have hj' : j < ls.length := by rw [← hl]; exact (List.getElem?_eq_some_iff.1 hj).1
    have := (hr j x hj).vals
    rwa [show (ls.map fun l => l.map (Value.int .i64)).getD j [] = (ls.getD j []).map (Value.int .i64) by simp [List.getD, hj']]⟩ (fun l hl u hu => by
    obtain ⟨q, _, rfl⟩ := List.mem_map.1 hl
    exact one_ints _ _ u hu) (by rw [ef, List.length_map]; exact hn)
  refine this.mono ?_
  rintro _ w' ⟨v', rfl, h1, h2⟩
  rw [ef, List.length_map] at h1
  exact ⟨v', rfl, h1, h2⟩
theorem own_at {w : World} {b N cv : Nat} {t : TypeId} {k : IntKind} {av : Option Addr} {xs : List Int} (h : w.ownsRow b t 1 (.slice av N cv) N (xs.map (Value.int k))) {j : Nat} (hj : j < N) : ∃ g, av = some ⟨g, 0, none⟩ ∧ w.cell? ⟨g, j, none⟩ = some (.int k (xs.getD j 0)) := by
  have hl : xs.length = N := by have := h.1; simpa using this
  have h0 := h
  rcases h.2 with ⟨e, h0⟩ | ⟨g, cap, cur, e, _⟩
  · injection e with e1 e2 e3
    omega
  · injection e with e1 e2 e3
    subst e1
    refine ⟨g, rfl, ?_⟩
    rw [h0.cellAt j (by omega), List.getElem?_map, List.getElem?_eq_getElem (show j < xs.length by omega)]
    simp [List.getD, show j < xs.length by omega]
/-- rows of two kinds lie apart -/
theorem own_types {w : World} {base base' n n' : Nat} {e e' : TypeId} {v v' : Value} {xs xs' : List Value} (h : w.ownsRow base e 1 v n xs) (h' : w.ownsRow base' e' 1 v' n' xs') (hne : e ≠ e') : v.ownBlock = none ∨ v.ownBlock ≠ v'.ownBlock := by
  rcases h'.2 with ⟨rfl, _⟩ | ⟨g', cap, cur, rfl, hb, hg, _⟩
  · rcases hv : v.ownBlock with _ | k
    · exact .inl rfl
    · exact .inr (by simp [Value.ownBlock])
  · exact ownsRow_blk h (show Blk w g' e' cur from hg) hne

set_option maxRecDepth 100000 in
set_option maxHeartbeats 1000000 in
theorem shNumbers (R K : List Int) (C U : List (List Int)) (rv kv cv uv : Value) (w : World) (hs : (numsL R K C U).length ≤ 100000) (hc : ClmR w rv kv cv uv R K C U) :
    Calls Try.prog 22 #[.agg #[rv, kv, cv, uv]] w fun e w' => ∃ v, e = .returned v ∧ Ints .u64 w' v (numsL R K C U) ∧ Ext w w' := by
  obtain ⟨i0, hi, hz0, hz1, hz2⟩ := info_parts info_catU
  have hlen : (numsL R K C U).length = 1 + (R.length + (K.length + (C.flatten.length + U.flatten.length))) := by simp [numsL]; omega
  rw [hlen] at hs
  obtain ⟨usC, vC, lC, rC⟩ := hc.c.vals
  obtain ⟨usU, vU, lU, rU⟩ := hc.u.vals
  have CC := hid fun (W : World) (hW : Ext w W) => catU_any cv usC C W (vC.ext hW) lC (fun j x hj => (rC j x hj).ext hW) (by omega)
  have CU := hid fun (W : World) (hW : Ext w W) => catU_any uv usU U W (vU.ext hW) lU (fun j x hj => (rU j x hj).ext hW) (by omega)
  have CR := hid fun (W : World) (hW : Ext w W) (g : Nat) (hB : Blk W g 26 #[rv, kv]) => catI_any (.slice (some ⟨g, 0, none⟩) 2 2) [rv, kv] [R, K] W (Blk.vals (us := [rv, kv]) hB rfl (by omega) (fun j hj => by
      rcases Nat.lt_or_ge j 1 with h | h
      · obtain rfl : j = 0 := by omega
        rfl
      · obtain rfl : j = 1 := by omega
        rfl)) rfl (fun j x hj => by
        rcases j with _ | _ | j
        · simp at hj; subst hj; exact hc.r.ext hW
        · simp at hj; subst hj; exact hc.k.ext hW
        · simp at hj) (by simp; omega)
  have CL := hid fun (W : World) (g : Nat) (y1 y2 y3 : Value) (l : List Int) (hB : Blk W g 23 #[y1, y2, y3]) (h1 : Ints .u64 W y1 l) (h2 : Ints .u64 W y2 C.flatten) (h3 : Ints .u64 W y3 U.flatten) (hl : l.length = 1 + (R.length + K.length)) =>
    catU_any (.slice (some ⟨g, 0, none⟩) 3 3) [y1, y2, y3] [l, C.flatten, U.flatten] W (Blk.vals (us := [y1, y2, y3]) hB rfl (by omega) (fun j hj => by
      rcases j with _ | _ | _ | j
      · rfl
      · rfl
      · rfl
      · omega)) rfl (fun j x hj => by
        rcases j with _ | _ | _ | j
        · simp at hj; subst hj; exact h1
        · simp at hj; subst hj; exact h2
        · simp at hj; subst hj; exact h3
        · simp at hj) (by simp only [List.flatten_cons, List.length_append, List.flatten_nil, List.length_nil]; omega)
  obtain ⟨q1, q2, q3, q4⟩ := hc
  obtain ⟨a1, c1, rfl, k1, k2, -⟩ := q1
  obtain ⟨a2, c2, rfl, -, -, -⟩ := q2
  obtain ⟨a3, c3, rfl, -, -, -⟩ := q3
  obtain ⟨a4, c4, rfl, -, -, -⟩ := q4
  have hcat : [R, K].flatten = R ++ K := by simp
  rw [hcat] at CR
  have hfin := hid fun (l : List Int) (e : l = (R.length : Int) :: (R ++ K).map IntKind.u64.wrap) => (show [l, C.flatten, U.flatten].flatten = numsL R K C U by
    rw [e]; simp [numsL])
  have hRK : (R ++ K).length = R.length + K.length := List.length_append
  obtain ⟨RK, eRK⟩ : ∃ l, R ++ K = l := ⟨_, rfl⟩
  rw [eRK] at CR hfin hRK
  obtain ⟨N, eN⟩ : ∃ N, RK.length = N := ⟨_, rfl⟩
  have EN := hid eN
  rw [eN] at hRK
  obtain ⟨r, er⟩ : ∃ r, R.length = r := ⟨_, rfl⟩
  rw [er] at CL CR hfin hs k1 hRK ⊢
  obtain ⟨CF, eCF⟩ : ∃ l, C.flatten = l := ⟨_, rfl⟩
  obtain ⟨UF, eUF⟩ : ∃ l, U.flatten = l := ⟨_, rfl⟩
  rw [eCF] at CC CL hfin hs
  rw [eUF] at CU CL hfin hs
  clear eCF eUF
  have HRK := hid hRK
  have hNb : N ≤ 100000 := by omega
  clear hRK
  clear eRK eN er hcat hlen vC vU lC lU rC rU
  have hB := hid (show Blk (w.alloc (.cells #[.slice a1 r c1, .slice a2 K.length c2, .slice a3 C.length c3, .slice a4 U.length c4] 29)) w.heap.size 29 #[.slice a1 r c1, .slice a2 K.length c2, .slice a3 C.length c3, .slice a4 U.length c4] from Blk.new w _ _)
  have hX := hid (show Ext w (w.alloc (.cells #[.slice a1 r c1, .slice a2 K.length c2, .slice a3 C.length c3, .slice a4 U.length c4] 29)) from (Ext.refl w).alloc _)
  have hS := hid (show ((w.alloc (.cells #[.slice a1 r c1, .slice a2 K.length c2, .slice a3 C.length c3, .slice a4 U.length c4] 29))).heap.size = w.heap.size + 1 from alloc_size _ _)
  have hown := hid (show ((w.alloc (.cells #[.slice a1 r c1, .slice a2 K.length c2, .slice a3 C.length c3, .slice a4 U.length c4] 29)).alloc (.cells #[.int .u64 (r : Int)] 22)).ownsRow (w.heap.size + 1) 22 1 (.slice (some ⟨w.heap.size + 1, 0, none⟩) 1 1) 1 ([(r : Int)].map (Value.int .u64)) from by
    have := own_oneU (w.alloc (.cells #[.slice a1 r c1, .slice a2 K.length c2, .slice a3 C.length c3, .slice a4 U.length c4] 29)) (r : Int) (w.heap.size + 1) (by rw [alloc_size]; exact Nat.le_refl _)
    rwa [hS.out] at this)
  have hR := hid (show Blk (((w.alloc (.cells #[.slice a1 r c1, .slice a2 K.length c2, .slice a3 C.length c3, .slice a4 U.length c4] 29)).alloc (.cells #[.int .u64 (r : Int)] 22)).alloc (.cells #[.slice a1 r c1, .slice a2 K.length c2] 26)) (w.heap.size + 1 + 1) 26 #[.slice a1 r c1, .slice a2 K.length c2] from Blk.at_ (by rw [alloc_size, alloc_size]))
  go_enter Try.func22, Try.ntmps22
  obtain ⟨b0, b1, b2, b3⟩ := hB.out.at4
  go_wp2_with fail
  clear b0 b1 b2 b3
  refine (CR.out _ (by repeat (first | exact Ext.refl _ | assumption | refine Ext.drew ?_ | refine Ext.drewN ?_ _ | refine Ext.alloc ?_ _ | refine Ext.trans ?_ (by assumption))) _ hR.out).mono ?_
  rintro _ w2 ⟨v2, rfl, I2, x2⟩
  obtain ⟨W, eW⟩ : ∃ W, (w.alloc (.cells #[.slice a1 r c1, .slice a2 K.length c2, .slice a3 C.length c3, .slice a4 U.length c4] 29)) = W := ⟨_, rfl⟩
  rw [eW] at hB hX hS hown x2 I2
  have x12 : Ext W w2 := (((Ext.refl W).alloc _).alloc _).trans x2
  have hown2 := hid (ownsRow_ext (hown.out.alloc _) x2)
  clear eW
  have HI2 := hid I2
  rw [EN.out] at HI2
  obtain ⟨av, cv', rfl, n1, -⟩ := owns_ints HI2.out
  clear I2 n1
  obtain ⟨b2, eb2⟩ : ∃ b, ((W.alloc (.cells #[.int .u64 (r : Int)] 22)).alloc (.cells #[.slice a1 r c1, .slice a2 K.length c2] 26)).heap.size = b := ⟨_, rfl⟩
  rw [eb2] at HI2
  clear eb2
  go_wp2_with fail
  go_loopw [18, 3] (fun iv lv wr => ∃ k : Nat, iv = .int .i64 k ∧ k ≤ N ∧ Hid (wr.ownsRow (w.heap.size + 1) 22 1 lv (k + 1) (((r : Int) :: (RK.take k).map IntKind.u64.wrap).map (Value.int .u64))) ∧ Hid (wr.ownsRow b2 3 1 (.slice av N cv') N (RK.map (Value.int .i64))) ∧ Ext W wr) (fun iv _ _ => N - (intOf iv).toNat)
  case atStart => exact ⟨0, rfl, Nat.zero_le _, hid (by simpa using hown2.out), HI2, x12⟩
  case round =>
    obtain ⟨k, rfl, hk, hown, hint, hw⟩ := hrel
    have hsz := hw.size
    rw [hS.out] at hsz
    by_cases hlt : k < N
    · obtain ⟨g, rfl, g1⟩ := own_at hint.out hlt
      obtain ⟨y, ey⟩ : ∃ y, RK.getD k 0 = y := ⟨_, rfl⟩
      rw [ey] at g1
      have Ey := hid ey
      have htake := hid (show RK.take (k + 1) = RK.take k ++ [y] by
        rw [← ey, List.take_succ_eq_append_getElem (by rw [EN.out]; exact hlt)]
        simp [List.getD, show k < RK.length by rw [EN.out]; exact hlt])
      clear ey
      have hint2 := hid (hint.out.alloc (.cells #[.int .u64 (IntKind.u64.wrap y)] 22))
      go_wp2_with (first
        | (at_builtin; refine wpList_append_own _ rfl _ _ 23 rfl (w.heap.size + 1) 22 i0 (.int .u64 0) 1 8 Try.underlying23 hi hz0 hz1 hz2 rfl (by decide) _ (k + 1) _ rfl (hown.out.alloc _) ⟨wr.heap.size, 0, none⟩ 1 1 [.int .u64 (IntKind.u64.wrap y)] rfl rfl (cell_one_new _ _ _) (by simp [Value.oneCell']) (by simp only [maxLen]; omega) (by omega) (by simp; omega) ?_; intro v8 w8 hown8 hgrow8 hnil8)
        | fail)
      go_roundw
      case rel =>
        refine ⟨k + 1, by go_num, by omega, hid ?_, hid (hint2.out.kept hgrow8 (own_types hint2.out (hown.out.alloc _) (by decide))), (hw.alloc _).grown hgrow8 (fun t e => by have := (hown.out.lt t e).1; rw [hS.out]; exact this)⟩
        rw [htake.out]
        simpa using hown8
      case measure => simp [intOf]; omega
    · obtain rfl : k = N := by omega
      clear hint
      obtain ⟨al, cl, elv, hll, hIl⟩ := owns_ints hown.out
      subst elv
      have HIl := hid hIl
      have Hfin := hid (hfin.out ((r : Int) :: (RK.take k).map IntKind.u64.wrap) (by rw [List.take_of_length_le (by rw [EN.out]; exact Nat.le_refl _)]))
      have Hll := hid (show ((r : Int) :: (RK.take k).map IntKind.u64.wrap).length = 1 + (r + K.length) by rw [hll, HRK.out]; omega)
      obtain ⟨LL, eLL⟩ : ∃ l, (r : Int) :: (RK.take k).map IntKind.u64.wrap = l := ⟨_, rfl⟩
      rw [eLL] at HIl Hfin Hll
      have hyw := hid (hX.out.trans hw)
      have fs := hid fun (W' : World) (hW : Ext wr W') => (hB.out.ext (hw.trans hW)).at4
      obtain ⟨b0, b1, b2', b3⟩ := fs.out _ (Ext.refl wr)
      clear hown hll hIl eLL hfin
      go_wp2_with fail
      have M0 := True.intro
      go_region_held3 (fun w' => w'.cell? ⟨w.heap.size, 0, none⟩ = some (.slice a1 r c1) ∧ w'.cell? ⟨w.heap.size, 1, none⟩ = some (.slice a2 K.length c2) ∧ w'.cell? ⟨w.heap.size, 2, none⟩ = some (.slice a3 C.length c3) ∧ w'.cell? ⟨w.heap.size, 3, none⟩ = some (.slice a4 U.length c4))
        (first | assumption | exact fs.out _ ((Ext.refl wr).drew) | exact fs.out _ (((Ext.refl wr).drew).trans x5) | exact fs.out _ ((((Ext.refl wr).drew).trans x5).trans x6) | exact fs.out _ (((((Ext.refl wr).drew).trans x5).trans x6).alloc _) | exact fs.out _ ((((((Ext.refl wr).drew).trans x5).trans x6).alloc _).trans x7))
        ((first
          | (go_at_call 55; clear M2; refine (CL.out _ _ _ _ _ LL (Blk.new w6 _ _) (HIl.out.ext (((((Ext.refl wr).drew).trans x5).trans x6).alloc _)) (HI5.out.ext (x6.alloc _)) (HI6.out.ext ((Ext.refl w6).alloc _)) Hll.out).mono ?_; rintro _ w7 ⟨v7, rfl, -, I7, x7⟩; rw [Hfin.out] at I7; have HI7 := hid I7; obtain ⟨a7, c7, rfl, -, -, -⟩ := I7)
          | (go_at_call 55; clear M1; refine (CU.out _ (hyw.out.trans (((Ext.refl wr).drew).trans x5))).mono ?_; rintro _ w6 ⟨v6, rfl, -, I6, x6⟩; have M2 := True.intro; have HI6 := hid I6; obtain ⟨a6, c6, rfl, -, -, -⟩ := I6)
          | (go_at_call 55; clear M0; refine (CC.out _ (hyw.out.trans ((Ext.refl wr).drew))).mono ?_; rintro _ w5 ⟨v5, rfl, -, I5, x5⟩; have M1 := True.intro; have HI5 := hid I5; obtain ⟨a5, c5, rfl, -, -, -⟩ := I5)))
      go_wp2_with fail
      go_ret
      exact ⟨_, rfl, HI7.out, hyw.out.trans ((((((Ext.refl wr).drew).trans x5).trans x6).alloc _).trans x7)⟩
end Go.Proofs.Ytnfnommiabalfaa
