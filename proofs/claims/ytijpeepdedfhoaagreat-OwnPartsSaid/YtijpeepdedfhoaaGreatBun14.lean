/- What the texts Ow1, Ow2, OwR show, in one text. -/
import Derived.Test.YtijpeepdedfhoaaGreatBun06
import Derived.Test.YtijpeepdedfhoaaGreatBun09
import Derived.Test.YtijpeepdedfhoaaGreatBun10
import Derived.Test.YtijpeepdedfhoaaGreatBun12
import Derived.Test.YtijpeepdedfhoaaGreatBun05
import Derived.Test.YtijpeepdedfhoaaGreatBun13
import Derived.Test.YtijpeepdedfhoaaGreatBun17
import Derived.Test.YtijpeepdedfhoaaGreatBun01
/- Package own: claims in memory, and its small functions. -/
namespace Go.Proofs.YtijpeepdedfhoaaGreat
open Go.RowKit Go.Maps

/-- a claim in memory -/
structure OwnR (w : World) (fv hv sv tv uv vv : Value) (F H S T U V : List Int) : Prop where
  f : Ints .u64 w fv F
  h : Ints .u64 w hv H
  s : Ints .u64 w sv S
  t : Ints .u64 w tv T
  u : Ints .u64 w uv U
  v : Ints .u64 w vv V
theorem OwnR.ext {w w' : World} {fv hv sv tv uv vv : Value} {F H S T U V : List Int} (o : OwnR w fv hv sv tv uv vv F H S T U V) (x : Ext w w') : OwnR w' fv hv sv tv uv vv F H S T U V := ⟨o.f.ext x, o.h.ext x, o.s.ext x, o.t.ext x, o.u.ext x, o.v.ext x⟩
/-- its numbers are the machine's -/
structure OwnU (F H S T U V : List Int) : Prop where
  f : U64s F
  h : U64s H
  s : U64s S
  t : U64s T
  u : U64s U
  v : U64s V
theorem Blk.at6 {w : World} {g : Nat} {ty : TypeId} {a b c d e f : Value} (h : Blk w g ty #[a, b, c, d, e, f]) : w.cell? ⟨g, 0, none⟩ = some a ∧ w.cell? ⟨g, 1, none⟩ = some b ∧ w.cell? ⟨g, 2, none⟩ = some c ∧ w.cell? ⟨g, 3, none⟩ = some d ∧ w.cell? ⟨g, 4, none⟩ = some e ∧ w.cell? ⟨g, 5, none⟩ = some f :=
  ⟨h.cell 0, h.cell 1, h.cell 2, h.cell 3, h.cell 4, h.cell 5⟩

/-- monic, of a degree from 1 to n? -/
def monB (p : Int) (F : List Int) (n : Int) : Bool := decide (2 ≤ F.length) && (decide ((F.length : Int) ≤ n + 1) && (decide (lead F = 1) && rightPB p F))
/-- below a degree, a polynomial? -/
def lowB (p : Int) (f : List Int) (d : Int) : Bool := decide ((f.length : Int) < d) && rightPB p f
/-- do S and T make 1? -/
noncomputable def bzB (p : Int) (F H S T : List Int) : Bool := @decide (pol p S * pol p F + pol p T * pol p H = 1) (Classical.propDecidable _)
theorem bzB_iff {p : Int} {F H S T : List Int} : bzB p F H S T = true ↔ pol p S * pol p F + pol p T * pol p H = 1 := by simp [bzB]
noncomputable def makB (p : Int) (F H S T : List Int) : Bool := lowB p S F.length && (lowB p T (F.length + 1) && bzB p F H S T)
/-- has a claim the shape? -/
noncomputable def ownB (p n : Int) (F H S T U V : List Int) : Bool := sideB n && (monB p F n && (lowB p H F.length && (makB p F H S T && (vecB p n U && vecB p n V))))
/-- a claim that has the shape -/
structure OwnOk (p : Int) (n : Nat) (F H S T U V : List Int) : Prop where
  hp : rightB p = true
  hn : 1 ≤ n ∧ n ≤ 64
  pF : Pol p F
  lF : 2 ≤ F.length ∧ F.length ≤ n + 1
  mF : lead F = 1
  pH : Pol p H
  lH : H.length < F.length
  pS : Pol p S
  lS : S.length < F.length
  pT : Pol p T
  lT : T.length < F.length + 1
  bz : pol p S * pol p F + pol p T * pol p H = 1
  lU : U.length = n
  rU : Rng p U
  lV : V.length = n
  rV : Rng p V
theorem vecB_iff {p : Int} {n : Nat} {l : List Int} (hl : U64s l) : vecB p n l = true ↔ rightB p = true ∧ l.length = n ∧ Rng p l := by
  unfold vecB
  rw [Bool.and_eq_true, decide_eq_true_eq]
  constructor
  · rintro ⟨h1, h2⟩
    obtain ⟨h3, h4⟩ := hasB_true h2
    exact ⟨h3, by omega, fun x hx => ⟨(hl x hx).1, h4 x hx⟩⟩
  · rintro ⟨h1, h2, h3⟩
    exact ⟨by omega, hasB_mk h1 fun x hx => (h3 x hx).2⟩
theorem ownB_iff {p n : Int} {F H S T U V : List Int} (hu : OwnU F H S T U V) : ownB p n F H S T U V = true ↔ ∃ k : Nat, n = k ∧ OwnOk p k F H S T U V := by
  constructor
  · intro h
    simp only [ownB, monB, lowB, makB, sideB, Bool.and_eq_true, decide_eq_true_eq] at h
    obtain ⟨h1, ⟨h2, h3, h4, h5⟩, ⟨h6, h7⟩, ⟨⟨h8, h9⟩, ⟨h10, h11⟩, h12⟩, h13, h14⟩ := h
    obtain ⟨k, rfl⟩ := Int.eq_ofNat_of_zero_le (show 0 ≤ n by omega)
    obtain ⟨g1, g2, g3⟩ := (rightPB_iff hu.f).1 h5
    obtain ⟨-, g4, -⟩ := (rightPB_iff hu.h).1 h7
    obtain ⟨-, g5, -⟩ := (rightPB_iff hu.s).1 h9
    obtain ⟨-, g6, -⟩ := (rightPB_iff hu.t).1 h11
    obtain ⟨-, g7, g8⟩ := (vecB_iff hu.u).1 h13
    obtain ⟨-, g9, g10⟩ := (vecB_iff hu.v).1 h14
    exact ⟨k, rfl, g1, by omega, g2, by omega, h4, g4, by omega, g5, by omega, g6, by omega, bzB_iff.1 h12, g7, g8, g9, g10⟩
  · rintro ⟨k, rfl, o⟩
    have := o.hn; have := o.lF; have := o.lH; have := o.lS; have := o.lT
    simp only [ownB, monB, lowB, makB, sideB, Bool.and_eq_true, decide_eq_true_eq]
    exact ⟨by omega, ⟨by omega, by omega, o.mF, (rightPB_iff hu.f).2 ⟨o.hp, o.pF, by omega⟩⟩, ⟨by omega, (rightPB_iff hu.h).2 ⟨o.hp, o.pH, by omega⟩⟩, ⟨⟨by omega, (rightPB_iff hu.s).2 ⟨o.hp, o.pS, by omega⟩⟩, ⟨by omega, (rightPB_iff hu.t).2 ⟨o.hp, o.pT, by omega⟩⟩, bzB_iff.2 o.bz⟩, (vecB_iff hu.u).2 ⟨o.hp, o.lU, o.rU⟩, (vecB_iff hu.v).2 ⟨o.hp, o.lV, o.rV⟩⟩

theorem owSide (n : Int) (w : World) : Calls Tryz.prog 38 #[.int .i64 n] w fun e w' => e = .returned (.bool (sideB n)) ∧ w = w' := by
  by_cases h : 1 ≤ n
  · by_cases h' : n ≤ 64
    all_goals
      go_enter Tryz.func38, Tryz.ntmps38
      go_wp2
      go_ret
      exact ⟨ret_bool (by simp [sideB]; omega), rfl⟩
  · go_enter Tryz.func38, Tryz.ntmps38
    go_wp2
    go_ret
    exact ⟨ret_bool (by simp [sideB]; omega), rfl⟩
theorem owVector (p many : Int) (v : Value) (xs : List Int) (w : World) (h0 : 0 ≤ p) (h1 : p ≤ 18446744073709551615) (hv : Ints .u64 w v xs) (hx : U64s xs) :
    Calls Tryz.prog 31 #[.int .u64 p, v, .int .i64 many] w fun e w' => e = .returned (.bool (vecB p many xs)) ∧ w = w' := by
  have H := hid (has_any p v xs w h0 h1 hv hx)
  obtain ⟨B, hB⟩ : ∃ B, hasB p xs = B := ⟨_, rfl⟩
  unfold vecB
  rw [hB] at H ⊢
  obtain ⟨a, cap, rfl, k1, k2, k3⟩ := hv
  clear k3 hB hx
  by_cases e : (xs.length : Int) = many
  · have b : ((xs.length : Int) == many) = true := by simp [e]
    rw [decide_eq_true e]
    clear e
    go_enter Tryz.func31, Tryz.ntmps31
    go_wp2_with (go_at_call 30; refine H.out.mono ?_; rintro _ _ ⟨rfl, rfl⟩)
    go_ret
    exact ⟨ret_bool (by simp), rfl⟩
  · have b : ((xs.length : Int) == many) = false := by simp [e]
    rw [decide_eq_false e]
    clear e
    go_enter Tryz.func31, Tryz.ntmps31
    go_wp2_with fail
    go_ret
    exact ⟨rfl, rfl⟩
theorem owBelow (p d : Int) (v : Value) (xs : List Int) (w : World) (h0 : 0 ≤ p) (h1 : p ≤ 18446744073709551615) (hv : Ints .u64 w v xs) (hx : U64s xs) :
    Calls Tryz.prog 40 #[.int .u64 p, v, .int .i64 d] w fun e w' => e = .returned (.bool (lowB p xs d)) ∧ w = w' := by
  have H := hid (polRight_any p v xs w h0 h1 hv hx)
  obtain ⟨B, hB⟩ : ∃ B, rightPB p xs = B := ⟨_, rfl⟩
  unfold lowB
  rw [hB] at H ⊢
  obtain ⟨a, cap, rfl, k1, k2, k3⟩ := hv
  clear k3 hB hx
  by_cases e : (xs.length : Int) < d
  · rw [decide_eq_true e]
    go_enter Tryz.func40, Tryz.ntmps40
    go_wp2_with (go_at_call 46; refine H.out.mono ?_; rintro _ _ ⟨rfl, rfl⟩)
    go_ret
    exact ⟨ret_bool (by simp), rfl⟩
  · rw [decide_eq_false e]
    go_enter Tryz.func40, Tryz.ntmps40
    go_wp2_with fail
    go_ret
    exact ⟨rfl, rfl⟩
theorem owMonic (p n : Int) (v : Value) (xs : List Int) (w : World) (h0 : 0 ≤ p) (h1 : p ≤ 18446744073709551615) (hv : Ints .u64 w v xs) (hx : U64s xs) (hn : 0 ≤ n ∧ n ≤ 64) :
    Calls Tryz.prog 39 #[.int .u64 p, v, .int .i64 n] w fun e w' => e = .returned (.bool (monB p xs n)) ∧ w = w' := by
  have H := hid (polRight_any p v xs w h0 h1 hv hx)
  obtain ⟨B, hB⟩ : ∃ B, rightPB p xs = B := ⟨_, rfl⟩
  unfold monB
  rw [hB] at H ⊢
  obtain ⟨a, cap, rfl, k1, k2, k3⟩ := hv
  clear hB hx
  by_cases e : 2 ≤ xs.length
  · rw [decide_eq_true e]
    by_cases e2 : (xs.length : Int) ≤ n + 1
    · rw [decide_eq_true e2]
      obtain ⟨b, off, rfl, hb, hcell⟩ := k3 (by omega)
      have g := hcell (xs.length - 1) (by omega)
      obtain ⟨r, hr⟩ : ∃ r, lead xs = r := ⟨_, rfl⟩
      rw [show xs.getD (xs.length - 1) 0 = lead xs from rfl, hr] at g
      rw [hr]
      obtain ⟨m, hm⟩ : ∃ m, xs.length = m + 1 := ⟨xs.length - 1, by omega⟩
      rw [hm] at g k1 e e2 H ⊢
      rw [show m + 1 - 1 = m by omega] at g
      clear hcell k3 hr hm
      by_cases c : r = 1
      · have b3 : (r == 1) = true := by simp [c]
        rw [decide_eq_true c]
        clear c
        go_enter Tryz.func39, Tryz.ntmps39
        go_wp2_with (go_at_call 46; refine H.out.mono ?_; rintro _ _ ⟨rfl, rfl⟩)
        go_ret
        exact ⟨ret_bool (by simp), rfl⟩
      · have b3 : (r == 1) = false := by simp [c]
        rw [decide_eq_false c]
        clear c
        go_enter Tryz.func39, Tryz.ntmps39
        go_wp2_with fail
        go_ret
        exact ⟨rfl, rfl⟩
    · rw [decide_eq_false e2]
      clear k3
      go_enter Tryz.func39, Tryz.ntmps39
      go_wp2_with fail
      go_ret
      exact ⟨rfl, rfl⟩
  · rw [decide_eq_false e]
    clear k3
    go_enter Tryz.func39, Tryz.ntmps39
    go_wp2_with fail
    go_ret
    exact ⟨rfl, rfl⟩
end Go.Proofs.YtijpeepdedfhoaaGreat
/- Package own: makes1, Has, shaped. -/
namespace Go.Proofs.YtijpeepdedfhoaaGreat
open Go.RowKit Go.Maps

theorem pol_1 {p : Int} : pol p [1] = 1 := by rw [pol_single, Ser.C_one]

set_option maxRecDepth 100000 in
set_option maxHeartbeats 2000000 in
theorem owMakes1 (p : Int) (F H S T U V : List Int) (fv hv sv tv uv vv : Value) (w : World) (hp : rightB p = true) (o : OwnR w fv hv sv tv uv vv F H S T U V) (hu : OwnU F H S T U V) (pF : Pol p F) (lF : F.length ≤ 65) (pH : Pol p H) (lH : H.length < F.length) :
    Calls Tryz.prog 41 #[.int .u64 p, .agg #[fv, hv, sv, tv, uv, vv]] w (Ret (.bool (makB p F H S T)) w) := by
  have hp2 := rightB_true hp
  have C1 := hid fun (W : World) (hW : Ext w W) => owBelow p F.length sv S W (by omega) (by omega) (o.s.ext hW) hu.s
  have C2 := hid fun (W : World) (hW : Ext w W) => owBelow p ((F.length : Int) + 1) tv T W (by omega) (by omega) (o.t.ext hW) hu.t
  have pS : lowB p S F.length = true → Pol p S ∧ S.length < F.length := fun h => by
    simp only [lowB, Bool.and_eq_true, decide_eq_true_eq] at h
    exact ⟨((rightPB_iff hu.s).1 h.2).2.1, by omega⟩
  have pT : lowB p T ((F.length : Int) + 1) = true → Pol p T ∧ T.length < F.length + 1 := fun h => by
    simp only [lowB, Bool.and_eq_true, decide_eq_true_eq] at h
    exact ⟨((rightPB_iff hu.t).1 h.2).2.1, by omega⟩
  have C3 := hid fun (q : lowB p S F.length = true) (W : World) (hW : Ext w W) => pMul_yes p sv fv S F W hp (o.s.ext hW) (o.f.ext hW) (pS q).1 pF (by have := (pS q).2; omega) (((pol_low S).mul (pol_low F)).mono (by have := (pS q).2; omega))
  have C4 := hid fun (q : lowB p T ((F.length : Int) + 1) = true) (W : World) (hW : Ext w W) => pMul_yes p tv hv T H W hp (o.t.ext hW) (o.h.ext hW) (pT q).1 pH (by have := (pT q).2; omega) (((pol_low T).mul (pol_low H)).mono (by have := (pT q).2; omega))
  have L3 := hid fun (q : lowB p S F.length = true) (zs : List Int) (hz : Pol p zs) (e : pol p zs = pol p S * pol p F) => (show zs.length ≤ 512 from hz.len_le (e ▸ ((pol_low S).mul (pol_low F)).mono (by have := (pS q).2; omega)))
  have L4 := hid fun (q : lowB p T ((F.length : Int) + 1) = true) (zs : List Int) (hz : Pol p zs) (e : pol p zs = pol p T * pol p H) => (show zs.length ≤ 512 from hz.len_le (e ▸ ((pol_low T).mul (pol_low H)).mono (by have := (pT q).2; omega)))
  have C5 := hid fun (W : World) (v u : Value) (xs ys : List Int) (h1 : Ints .u64 W v xs) (h2 : Ints .u64 W u ys) (h3 : Pol p xs) (h4 : Pol p ys) (h5 : xs.length ≤ 512) (h6 : ys.length ≤ 512) => pAdd_yes p v u xs ys W hp h1 h2 h3 h4 ⟨h5, h6⟩
  have C6 := hid fun (W : World) (v u : Value) (xs ys : List Int) (h1 : Ints .u64 W v xs) (h2 : Ints .u64 W u ys) => equal_any v u xs ys W h1 h2
  have D6 := hid fun (zs : List Int) (hz : Pol p zs) (e : pol p zs = pol p S * pol p F + pol p T * pol p H) => (show decide (zs = [1]) = bzB p F H S T by
    rw [Bool.eq_iff_iff, decide_eq_true_eq, bzB_iff, ← e, ← pol_1]
    exact ⟨fun h => by rw [h], fun h => hz.inj (Pol.one (by omega) (by omega)) h⟩)
  unfold makB
  obtain ⟨B1, e1⟩ : ∃ B, lowB p S F.length = B := ⟨_, rfl⟩
  obtain ⟨B2, e2⟩ : ∃ B, lowB p T ((F.length : Int) + 1) = B := ⟨_, rfl⟩
  obtain ⟨B3, e3⟩ : ∃ B, bzB p F H S T = B := ⟨_, rfl⟩
  rw [e1] at C1 C3 L3
  rw [e2] at C2 C4 L4
  rw [e3] at D6
  rw [e1, e2, e3]
  clear e1 e2 e3 pS pT hu pF pH
  have lF2 := lF
  obtain ⟨a1, c1, rfl, k1, -, -⟩ := o.f
  obtain ⟨a2, c2, rfl, -, -, -⟩ := o.h
  obtain ⟨a3, c3, rfl, -, -, -⟩ := o.s
  obtain ⟨a4, c4, rfl, -, -, -⟩ := o.t
  obtain ⟨a5, c5, rfl, -, -, -⟩ := o.u
  obtain ⟨a6, c6, rfl, -, -, -⟩ := o.v
  clear o
  have hb := hid (show Blk (w.alloc (.cells #[.slice a1 F.length c1, .slice a2 H.length c2, .slice a3 S.length c3, .slice a4 T.length c4, .slice a5 U.length c5, .slice a6 V.length c6] 30)) w.heap.size 30 #[.slice a1 F.length c1, .slice a2 H.length c2, .slice a3 S.length c3, .slice a4 T.length c4, .slice a5 U.length c5, .slice a6 V.length c6] from Blk.new w _ _)
  have hx := hid (show Ext w (w.alloc (.cells #[.slice a1 F.length c1, .slice a2 H.length c2, .slice a3 S.length c3, .slice a4 T.length c4, .slice a5 U.length c5, .slice a6 V.length c6] 30)) from (Ext.refl w).alloc _)
  obtain ⟨b0, b1, b2, b3, b4, b5⟩ := hb.out.at6
  go_enter Tryz.func41, Tryz.ntmps41
  go_wp2_with fail
  refine (C1.out _ hx.out).mono ?_
  rintro _ _ ⟨rfl, rfl⟩
  cases B1
  · go_wp2_with fail
    go_ret
    exact ⟨rfl, hx.out⟩
  go_wp2_with fail
  refine (C2.out _ hx.out).mono ?_
  rintro _ _ ⟨rfl, rfl⟩
  cases B2
  · go_wp2_with fail
    go_ret
    exact ⟨rfl, hx.out⟩
  go_wp2_with fail
  refine (C3.out (by trivial) _ hx.out).mono ?_
  rintro _ w1 ⟨v1, z1, rfl, i1, p1, q1, x1⟩
  have I1 := hid i1; have P1 := hid p1; have Q1 := hid q1; have l1 := L3.out (by trivial) _ p1 q1
  obtain ⟨d1, f1, rfl, -, -, -⟩ := i1
  clear p1 q1 b0 b1 b2 b3 b4 b5
  obtain ⟨b0, b1, b2, b3, b4, b5⟩ := (hb.out.ext x1).at6
  have y1 := hid (hx.out.trans x1)
  go_wp2_with fail
  refine (C4.out (by trivial) _ y1.out).mono ?_
  rintro _ w2 ⟨v2, z2, rfl, i2, p2, q2, x2⟩
  have I2 := hid i2; have P2 := hid p2; have Q2 := hid q2; have l2 := L4.out (by trivial) _ p2 q2
  obtain ⟨d2, f2, rfl, -, -, -⟩ := i2
  clear p2 q2 b0 b1 b2 b3 b4 b5
  go_wp2_with fail
  refine (C5.out _ _ _ _ _ (I1.out.ext x2) I2.out P1.out P2.out l1 l2).mono ?_
  rintro _ w3 ⟨v3, z3, rfl, i3, p3, q3, x3⟩
  have E := hid (D6.out _ p3 (by rw [q3, Q1.out, Q2.out]))
  have I3 := hid i3
  obtain ⟨d3, f3, rfl, -, -, -⟩ := i3
  clear p3 q3
  have y3 := hid ((y1.out.trans x2).trans x3)
  go_wp2_with fail
  refine (C6.out _ _ _ _ _ (I3.out.ext ((Ext.refl _).alloc _)) (Ints.at1 rfl)).mono ?_
  rintro _ w4 ⟨rfl, x4⟩
  rw [E.out]
  go_wp2_with fail
  go_ret
  exact ⟨ret_bool (by simp), (y3.out.alloc _).trans x4⟩

set_option maxRecDepth 100000 in
set_option maxHeartbeats 2000000 in
theorem owHas (p n : Int) (F H S T U V : List Int) (fv hv sv tv uv vv : Value) (w : World) (h0 : 0 ≤ p) (h1 : p ≤ 18446744073709551615) (o : OwnR w fv hv sv tv uv vv F H S T U V) (hu : OwnU F H S T U V) :
    Calls Tryz.prog 12 #[.int .u64 p, .agg #[fv, hv, sv, tv, uv, vv], .int .i64 n] w (Ret (.bool (ownB p n F H S T U V)) w) := by
  have pM : sideB n = true → monB p F n = true → rightB p = true ∧ Pol p F ∧ F.length ≤ 65 := fun h h' => by
    simp only [monB, sideB, Bool.and_eq_true, decide_eq_true_eq] at h h'
    obtain ⟨g1, g2, g3⟩ := (rightPB_iff hu.f).1 h'.2.2.2
    exact ⟨g1, g2, by omega⟩
  have pL : lowB p H F.length = true → Pol p H ∧ H.length < F.length := fun h => by
    simp only [lowB, Bool.and_eq_true, decide_eq_true_eq] at h
    exact ⟨((rightPB_iff hu.h).1 h.2).2.1, by omega⟩
  have C1 := hid fun (W : World) => owSide n W
  have C2 := hid fun (q : sideB n = true) (W : World) (hW : Ext w W) => (owMonic p n fv F W h0 h1 (o.f.ext hW) hu.f (by simp only [sideB, decide_eq_true_eq] at q; omega))
  have C3 := hid fun (W : World) (hW : Ext w W) => owBelow p F.length hv H W h0 h1 (o.h.ext hW) hu.h
  have C4 := hid fun (q1 : sideB n = true) (q2 : monB p F n = true) (q3 : lowB p H F.length = true) (W : World) (hW : Ext w W) => owMakes1 p F H S T U V fv hv sv tv uv vv W (pM q1 q2).1 (o.ext hW) hu (pM q1 q2).2.1 (pM q1 q2).2.2 (pL q3).1 (pL q3).2
  have C5 := hid fun (W : World) (hW : Ext w W) => owVector p n uv U W h0 h1 (o.u.ext hW) hu.u
  have C6 := hid fun (W : World) (hW : Ext w W) => owVector p n vv V W h0 h1 (o.v.ext hW) hu.v
  unfold ownB
  obtain ⟨B1, e1⟩ : ∃ B, sideB n = B := ⟨_, rfl⟩
  obtain ⟨B2, e2⟩ : ∃ B, monB p F n = B := ⟨_, rfl⟩
  obtain ⟨B3, e3⟩ : ∃ B, lowB p H F.length = B := ⟨_, rfl⟩
  obtain ⟨B4, e4⟩ : ∃ B, makB p F H S T = B := ⟨_, rfl⟩
  obtain ⟨B5, e5⟩ : ∃ B, vecB p n U = B := ⟨_, rfl⟩
  obtain ⟨B6, e6⟩ : ∃ B, vecB p n V = B := ⟨_, rfl⟩
  rw [e1] at C1 C2 C4
  rw [e2] at C2 C4
  rw [e3] at C3 C4
  rw [e4] at C4
  rw [e5] at C5
  rw [e6] at C6
  rw [e1, e2, e3, e4, e5, e6]
  clear e1 e2 e3 e4 e5 e6 pM pL hu
  obtain ⟨a1, c1, rfl, k1, -, -⟩ := o.f
  obtain ⟨a2, c2, rfl, -, -, -⟩ := o.h
  obtain ⟨a3, c3, rfl, -, -, -⟩ := o.s
  obtain ⟨a4, c4, rfl, -, -, -⟩ := o.t
  obtain ⟨a5, c5, rfl, -, -, -⟩ := o.u
  obtain ⟨a6, c6, rfl, -, -, -⟩ := o.v
  clear o
  have hb := hid (show Blk (w.alloc (.cells #[.slice a1 F.length c1, .slice a2 H.length c2, .slice a3 S.length c3, .slice a4 T.length c4, .slice a5 U.length c5, .slice a6 V.length c6] 30)) w.heap.size 30 #[.slice a1 F.length c1, .slice a2 H.length c2, .slice a3 S.length c3, .slice a4 T.length c4, .slice a5 U.length c5, .slice a6 V.length c6] from Blk.new w _ _)
  have hx := hid (show Ext w (w.alloc (.cells #[.slice a1 F.length c1, .slice a2 H.length c2, .slice a3 S.length c3, .slice a4 T.length c4, .slice a5 U.length c5, .slice a6 V.length c6] 30)) from (Ext.refl w).alloc _)
  obtain ⟨b0, b1, b2, b3, b4, b5⟩ := hb.out.at6
  go_enter Tryz.func12, Tryz.ntmps12
  go_wp2_with fail
  refine (C1.out _).mono ?_
  rintro _ _ ⟨rfl, rfl⟩
  cases B1
  · go_wp2_with fail
    go_ret
    exact ⟨rfl, hx.out⟩
  go_wp2_with fail
  refine (C2.out (by trivial) _ hx.out).mono ?_
  rintro _ _ ⟨rfl, rfl⟩
  cases B2
  · go_wp2_with fail
    go_ret
    exact ⟨rfl, hx.out⟩
  go_wp2_with fail
  refine (C3.out _ hx.out).mono ?_
  rintro _ _ ⟨rfl, rfl⟩
  cases B3
  · go_wp2_with fail
    go_ret
    exact ⟨rfl, hx.out⟩
  go_wp2_with fail
  refine (C4.out (by trivial) (by trivial) (by trivial) _ hx.out).mono ?_
  rintro _ w1 ⟨rfl, x1⟩
  clear b0 b1 b2 b3 b4 b5
  obtain ⟨b0, b1, b2, b3, b4, b5⟩ := (hb.out.ext x1).at6
  have y1 := hid (hx.out.trans x1)
  cases B4
  · go_wp2_with fail
    go_ret
    exact ⟨rfl, y1.out⟩
  go_wp2_with fail
  refine (C5.out _ y1.out).mono ?_
  rintro _ _ ⟨rfl, rfl⟩
  cases B5
  · go_wp2_with fail
    go_ret
    exact ⟨rfl, y1.out⟩
  go_wp2_with fail
  refine (C6.out _ y1.out).mono ?_
  rintro _ _ ⟨rfl, rfl⟩
  go_wp2_with fail
  go_ret
  exact ⟨ret_bool (by simp), y1.out⟩
end Go.Proofs.YtijpeepdedfhoaaGreat
/- How many roots a polynomial has; a claim that isn't a divisor passes at few places (in plain Lean; nothing of a program). -/
namespace Go.Proofs.YtijpeepdedfhoaaGreat
variable {p : Int} {n : Nat}

/-- of how many below N it holds -/
def cntZ (P : Nat → Bool) (N : Nat) : Nat := sumN N fun k => if P k then 1 else 0
theorem cntZ_none {P : Nat → Bool} {N : Nat} (h : ∀ k, k < N → P k = false) : cntZ P N = 0 := sumN_zero fun k hk => by rw [h k hk]; rfl
theorem cntZ_cut' {P Q : Nat → Bool} {a : Nat} : ∀ {N : Nat}, (∀ k, k < N → k ≠ a → P k = true → Q k = true) → cntZ P N ≤ cntZ Q N + if a < N then 1 else 0
  | 0, _ => by simp [cntZ, sumN]
  | N + 1, h => by
    have ih := cntZ_cut' (a := a) fun k hk => h k (Nat.lt_succ_of_lt hk)
    show cntZ P N + (if P N then 1 else 0) ≤ cntZ Q N + (if Q N then 1 else 0) + _
    rcases Nat.lt_trichotomy a N with c | c | c
    · rw [if_pos c] at ih
      rw [if_pos (show a < N + 1 by omega)]
      have := h N (by omega) (by omega)
      cases e : P N with
      | false => simp; omega
      | true => rw [this e]; simp; omega
    · subst c
      rw [if_neg (Nat.lt_irrefl _)] at ih
      rw [if_pos (show a < a + 1 by omega)]
      cases P a <;> cases Q a <;> simp <;> omega
    · rw [if_neg (show ¬ a < N by omega)] at ih
      rw [if_neg (show ¬ a < N + 1 by omega)]
      have := h N (by omega) (by omega)
      cases e : P N with
      | false => simp; omega
      | true => rw [this e]; simp; omega
theorem cntZ_cut {P Q : Nat → Bool} {a N : Nat} (h : ∀ k, k < N → k ≠ a → P k = true → Q k = true) : cntZ P N ≤ cntZ Q N + 1 := by
  have := cntZ_cut' h
  split at this <;> omega
theorem cntZ_mono {P Q : Nat → Bool} {N : Nat} (h : ∀ k, k < N → P k = true → Q k = true) : cntZ P N ≤ cntZ Q N := sumN_le fun k hk => by
  cases e : P k with
  | false => simp
  | true => rw [h k hk e]; exact Nat.le_refl _

theorem ev_long {f : Ser p} {d e : Nat} (hf : f.low d) (hd : d ≤ e) (z : Int) : evF e f.co z = evF d f.co z := sm_cut hd fun k hk => by rw [hf k hk, Int.zero_mul]
theorem ev_mul {f g : Ser p} {a b : Nat} (hf : f.low a) (hg : g.low b) (z : Int) : evF (a + b) (f * g).co z % p = evF a f.co z * evF b g.co z % p := by
  have e1 : evF (a + b) (f * g).co z % p = (sm (a + b) fun k => cv f.co g.co k * z ^ k) % p := sm_mod fun k _ => by rw [Ser.mul_co, mm_l]
  rw [e1, sm_conv hf hg]
  refine congrArg (· % p) ?_
  unfold evF
  rw [← sm_mul_r]
  refine sm_congr fun i _ => ?_
  rw [← sm_mul]
  exact sm_congr fun j _ => by rw [Int.pow_add]; grind
theorem ev_add (f g : Ser p) (d : Nat) (z : Int) : evF d (f + g).co z % p = (evF d f.co z + evF d g.co z) % p := by
  unfold evF
  rw [← sm_add]
  exact sm_mod fun k _ => by rw [Ser.add_co, mm_l, Int.add_mul]
theorem ev_sub (f g : Ser p) (d : Nat) (z : Int) : evF d (f - g).co z % p = (evF d f.co z - evF d g.co z) % p := by
  unfold evF
  rw [← sm_dec]
  exact sm_mod fun k _ => by rw [Ser.sub_co, mm_l, Int.sub_mul]
/-- x less a number -/
def linS (p a : Int) : Ser p := .of p fun k => if k = 0 then -a else if k = 1 then 1 else 0
theorem linS_low (a : Int) : (linS p a).low 2 := fun k hk => by
  show (if k = 0 then -a else if k = 1 then 1 else 0) % p = 0
  rw [if_neg (by omega), if_neg (by omega), Int.zero_emod]
theorem linS_top (hp : 2 ≤ p) (a : Int) : (linS p a).co 1 = 1 := show (1 : Int) % p = 1 from mod_small (by omega) (by omega)
theorem linS_ev (hp : 2 ≤ p) (a z : Int) : evF 2 (linS p a).co z % p = (z - a) % p := by
  show (0 + (linS p a).co 0 * z ^ 0 + (linS p a).co 1 * z ^ 1) % p = _
  rw [linS_top hp, show (linS p a).co 0 = -a % p from rfl, Int.pow_zero, Int.mul_one, Int.one_mul, show z ^ 1 = z by simp [Int.pow_succ], Int.zero_add, ma_l]
  congr 1; omega
theorem ser_one {r : Ser p} (hr : r.low 1) (h : r.co 0 % p = 0) : r = 0 := Ser.ext_ fun k => by
  rw [Ser.zero_co]
  rcases Nat.eq_zero_or_pos k with rfl | hk
  · rw [← r.ok, h]
  · exact hr k hk
/-- who is 0 at a place is a multiple of x less that place -/
theorem root_factor (hp : HasInv p) {E : Ser p} {d : Nat} (hE : E.low (d + 1)) {a : Int} (h0 : evF (d + 1) E.co a % p = 0) : ∃ q : Ser p, q.low d ∧ E = q * linS p a := by
  have hp2 := hp.1
  obtain ⟨q, r, ⟨m, hq⟩, hr, e⟩ := ser_div (linS_low (p := p) a) (linS_top hp2 a) (d + 1) E hE
  have hlq : (q * linS p a).low (m + 2) := (Ser.low.mul hq (linS_low a)).mono (by omega)
  have e1 : evF (m + 2 + (d + 1)) E.co a % p = 0 := by rw [ev_long hE (by omega), h0]
  rw [e, ev_add, ev_long hlq (by omega), ev_long (f := r) hr (by omega), ← ma_l, ev_mul hq (linS_low a), ← mm_r, linS_ev hp2, Int.sub_self, Int.zero_emod, Int.mul_zero, Int.zero_emod, Int.zero_add] at e1
  have e2 : evF 1 r.co a = r.co 0 := by show 0 + r.co 0 * a ^ 0 = _; rw [Int.pow_zero]; omega
  rw [e2] at e1
  have hr0 := ser_one hr e1
  rw [hr0, Ser.add_zero] at e
  refine ⟨q, ?_, e⟩
  by_cases hq0 : q = 0
  · rw [hq0]; exact Ser.low_zero _
  · obtain ⟨t, ht, htl⟩ := Ser.poly.top ⟨m, hq⟩ hq0
    have h1 := (Ser.mul_top htl (linS_low (p := p) a)).1
    rw [linS_top hp2, Int.mul_one, q.ok, ← e] at h1
    refine htl.mono ?_
    apply Classical.byContradiction
    intro hn
    exact ht (by rw [← h1]; exact hE _ (by omega))
theorem roots_cnt (hp : HasInv p) : ∀ (d : Nat) (E : Ser p), E.low (d + 1) → E ≠ 0 → ∀ N : Nat, (N : Int) ≤ p → cntZ (fun k => decide (evF (d + 1) E.co k % p = 0)) N ≤ d
  | d, E, hE, h0, N, hN => by
    have hp2 := hp.1
    by_cases hr : ∃ a : Nat, a < N ∧ evF (d + 1) E.co a % p = 0
    · obtain ⟨a, ha, hz⟩ := hr
      obtain ⟨q, hq, e⟩ := root_factor hp hE hz
      have hq0 : q ≠ 0 := fun e0 => h0 (by rw [e, e0, Ser.zero_mul])
      match d, hE, hz, hq with
      | 0, _, _, hq => exact absurd hq.zero hq0
      | d + 1, hE, hz, hq =>
        have ih := roots_cnt hp d q hq hq0 N hN
        refine Nat.le_trans (cntZ_cut (a := a) (Q := fun k => decide (evF (d + 1) q.co k % p = 0)) fun k hk hne hP => ?_) (Nat.succ_le_succ ih)
        rw [decide_eq_true_eq] at hP ⊢
        have h1 : evF (d + 1 + 2) E.co k % p = 0 := by rw [ev_long hE (by omega), hP]
        rw [e, ev_mul hq (linS_low _), ← mm_r, linS_ev hp2, mm_r] at h1
        apply Classical.byContradiction
        intro hne2
        refine mz_prod hp hne2 (fun h2 => ?_) h1
        have h3 : ((k : Int) - (a : Int)) % p = 0 := h2
        rw [← Int.emod_eq_emod_iff_emod_sub_eq_zero, Int.emod_eq_of_lt (by omega) (by omega), Int.emod_eq_of_lt (by omega) (by omega)] at h3
        omega
    · rw [cntZ_none fun k hk => decide_eq_false fun h => hr ⟨k, hk, h⟩]
      exact Nat.zero_le _
theorem ser_mul_ne (hp : HasInv p) {a b : Ser p} (ha : a.poly) (hb : b.poly) (a0 : a ≠ 0) (b0 : b ≠ 0) : a * b ≠ 0 := by
  obtain ⟨i, hi, hil⟩ := ha.top a0
  obtain ⟨j, hj, hjl⟩ := hb.top b0
  intro e
  have h := (Ser.mul_top hil hjl).1
  rw [e, Ser.zero_co] at h
  exact mz_prod hp (by rw [a.ok]; exact hi) (by rw [b.ok]; exact hj) h.symm
/-- a claim whose polynomial doesn't divide the matrix's own passes at few places -/
theorem claim_few (hp : HasInv p) (hn : 1 ≤ n) {F H f h S T : Ser p} (hF : F.low (n + 1)) (hH : H.low n) (hf : f.low (n + 1)) (hh : h.low n) (f0 : f ≠ 0) (hS : S.poly) (hT : T.poly) (hb : S * F + T * H = 1) (hno : ¬ ∃ q : Ser p, q.poly ∧ f = q * F)
    (P : Nat → Bool) (N : Nat) (hN : (N : Int) ≤ p) (hP : ∀ k, k < N → P k = true → evF (n + 1) f.co k % p = 0 ∨ evF (n + 1) F.co k * evF n h.co k % p = evF (n + 1) f.co k * evF n H.co k % p) : cntZ P N ≤ 3 * n := by
  have hD0 : F * h - f * H ≠ 0 := fun e => hno ⟨f * S + T * h, (Ser.poly.mul ⟨_, hf⟩ hS).add (hT.mul ⟨_, hh⟩), by
    have e1 := Ser.eq_of_sub e
    have e2 : f = f * (S * F + T * H) := by rw [hb, Ser.mul_one]
    refine e2.trans ?_
    rw [Ser.mul_add, Ser.add_mul]
    congr 1
    · rw [Ser.mul_assoc]
    · rw [show f * (T * H) = T * (f * H) by ac_rfl, ← e1]; ac_rfl⟩
  have hDl : (F * h - f * H).low (2 * n) := ((Ser.low.mul hF hh).mono (by omega)).sub ((Ser.low.mul hf hH).mono (by omega))
  have hE0 := ser_mul_ne hp ⟨_, hf⟩ ⟨_, hDl⟩ f0 hD0
  have hEl : (f * (F * h - f * H)).low (3 * n - 1 + 1) := (Ser.low.mul hf hDl).mono (by omega)
  have := roots_cnt hp (3 * n - 1) _ hEl hE0 N hN
  refine Nat.le_trans (cntZ_mono fun k hk hPk => ?_) (Nat.le_trans this (by omega))
  rw [decide_eq_true_eq]
  have hl : evF (3 * n - 1 + 1) (f * (F * h - f * H)).co k % p = evF (n + 1 + 2 * n) (f * (F * h - f * H)).co k % p := by rw [ev_long hEl (show 3 * n - 1 + 1 ≤ n + 1 + 2 * n by omega)]
  rw [hl, ev_mul hf hDl]
  rcases hP k hk hPk with h1 | h1
  · rw [← mm_l, h1, Int.zero_mul, Int.zero_emod]
  · have h2 : evF (2 * n) (F * h - f * H).co k % p = 0 := by
      have a1 : evF (2 * n) (F * h - f * H).co k % p = evF (2 * n + 1) (F * h - f * H).co k % p := (congrArg (· % p) (ev_long hDl (show 2 * n ≤ 2 * n + 1 by omega) (k : Int))).symm
      have a2 := ev_mul hF hh (k : Int)
      have a3 := ev_mul hf hH (k : Int)
      rw [show n + 1 + n = 2 * n + 1 by omega] at a2 a3
      rw [a1, ev_sub, Int.sub_emod, a2, a3, h1, Int.sub_self, Int.zero_emod]
    rw [← mm_r, h2, Int.mul_zero, Int.zero_emod]
end Go.Proofs.YtijpeepdedfhoaaGreat
