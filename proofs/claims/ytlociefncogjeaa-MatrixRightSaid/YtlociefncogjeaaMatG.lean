/- Layer 5: each function's answer in one form, whether what it is given is right or not. -/
import Derived.Test.YtlociefncogjeaaAwake05
import Derived.Test.YtlociefncogjeaaMatOk
namespace Go.Proofs.Ytlociefncogjeaa
open Go.RowKit Go.Maps

/-- numbers, or that something isn't right -/
def RetG (ok : Bool) (l : List Int) (w : World) (e : Ending) (w' : World) : Prop :=
  ∃ (v : Value) (l' : List Int) (ee : Int), e = .returned (.tuple #[v, .int .i64 ee]) ∧ Ints .u64 w' v l' ∧ ee = (if ok = true then 0 else 1) ∧ l' = (if ok = true then l else []) ∧ Ext w w'
/-- a matrix, or that something isn't right -/
def RetGM (ok : Bool) (r c : Int) (l : List Int) (w : World) (e : Ending) (w' : World) : Prop :=
  ∃ (rx cx : Int) (v : Value) (l' : List Int) (ee : Int), e = .returned (.tuple #[.agg #[.int .i64 rx, .int .i64 cx, v], .int .i64 ee]) ∧ Ints .u64 w' v l' ∧ ee = (if ok = true then 0 else 1) ∧ l' = (if ok = true then l else []) ∧ (ok = true → rx = r ∧ cx = c) ∧ Ext w w'
/-- a thin one, or that something isn't right -/
def RetGS (ok : Bool) (r c : Int) (bs cs vs : List Int) (w : World) (e : Ending) (w' : World) : Prop :=
  ∃ (rx cx : Int) (vb vc vv : Value) (lb lc lv : List Int) (ee : Int), e = .returned (.tuple #[.agg #[.int .i64 rx, .int .i64 cx, vb, vc, vv], .int .i64 ee]) ∧ Ints .i64 w' vb lb ∧ Ints .i64 w' vc lc ∧ Ints .u64 w' vv lv ∧ ee = (if ok = true then 0 else 1) ∧ lv = (if ok = true then vs else []) ∧ (ok = true → rx = r ∧ cx = c ∧ lb = bs ∧ lc = cs) ∧ Ext w w'
theorem RetV.g {l : List Int} {w : World} {e : Ending} {w' : World} (h : RetV l w e w') : RetG true l w e w' := by
  obtain ⟨v, h1, h2, h3⟩ := h
  exact ⟨v, l, 0, h1, h2, rfl, rfl, h3⟩
theorem noG {l : List Int} {w : World} {e : Ending} {w' : World} (h : Ret (.tuple #[.slice none 0 0, .int .i64 1]) w e w') : RetG false l w e w' := ⟨_, [], 1, h.1, Ints.nil, rfl, rfl, h.2⟩
theorem RetN.g {r c : Int} {l : List Int} {w : World} {e : Ending} {w' : World} (h : RetN r c l w e w') : RetGM true r c l w e w' := by
  obtain ⟨v, h1, h2, h3⟩ := h
  exact ⟨r, c, v, l, 0, h1, h2, rfl, rfl, fun _ => ⟨rfl, rfl⟩, h3⟩
theorem noGM {r c : Int} {l : List Int} {w : World} {e : Ending} {w' : World} (h : Ret noMat w e w') : RetGM false r c l w e w' := ⟨0, 0, .slice none 0 0, [], 1, h.1, Ints.nil, rfl, rfl, fun h => absurd h (by decide), h.2⟩
variable {p r c : Int} {v u : Value} {xs zs : List Int} {w : World}
theorem MatOk.vec {m n : Nat} (_ : MatOk p m n xs) {k : Nat} {zs : List Int} (hz : U64s zs) (h : vecB p k zs = true) : Rng p zs ∧ zs.length = k := by
  obtain ⟨_, h2, h3⟩ := vecB_true hz h
  exact ⟨h2, by omega⟩
theorem times_g (h0 : 0 ≤ p) (h1 : p ≤ 18446744073709551615) (hv : Ints .u64 w v xs) (hx : U64s xs) (hu : Ints .u64 w u zs) (hz : U64s zs) :
    Calls Try.prog 12 #[.int .u64 p, matV r c v, u] w (RetG (matB p r c xs && vecB p c zs) (timesL p r.toNat c.toNat xs zs) w) := by
  cases h : (matB p r c xs && vecB p c zs) with
  | false => exact (mxTimes_no p r c v u xs zs w h0 h1 hv hx hu hz h).mono fun _ _ h => noG h
  | true =>
    rw [Bool.and_eq_true] at h
    obtain ⟨m, n, rfl, rfl, ok⟩ := MatOk.of hx h.1
    obtain ⟨k1, k2⟩ := ok.vec hz h.2
    exact (mxTimes_yes p m n v u xs zs w ok hv hu k1 k2).mono fun _ _ h => h.g
theorem rtimes_g (hv : Ints .u64 w v xs) (hx : U64s xs) (hu : Ints .u64 w u zs) (hz : U64s zs) (h : (matB p r c xs && vecB p c zs) = true) :
    Calls Try.prog 21 #[.int .u64 p, matV r c v, u] w (RetL (timesL p r.toNat c.toNat xs zs) w) := by
  rw [Bool.and_eq_true] at h
  obtain ⟨m, n, rfl, rfl, ok⟩ := MatOk.of hx h.1
  obtain ⟨k1, k2⟩ := ok.vec hz h.2
  exact rmTimes p m n v u xs zs w ok.hp hv hu ok.hx k1 ok.hm.2 ok.hn.2 ok.hl k2
theorem left_g (h0 : 0 ≤ p) (h1 : p ≤ 18446744073709551615) (hv : Ints .u64 w v xs) (hx : U64s xs) (hu : Ints .u64 w u zs) (hz : U64s zs) :
    Calls Try.prog 13 #[.int .u64 p, u, matV r c v] w (RetG (matB p r c xs && vecB p r zs) (leftL p r.toNat c.toNat xs zs) w) := by
  cases h : (matB p r c xs && vecB p r zs) with
  | false => exact (mxLeft_no p r c v u xs zs w h0 h1 hv hx hu hz h).mono fun _ _ h => noG h
  | true =>
    rw [Bool.and_eq_true] at h
    obtain ⟨m, n, rfl, rfl, ok⟩ := MatOk.of hx h.1
    obtain ⟨k1, k2⟩ := ok.vec hz h.2
    exact (mxLeft_yes p m n v u xs zs w ok hv hu k1 k2).mono fun _ _ h => h.g
theorem rleft_g (hv : Ints .u64 w v xs) (hx : U64s xs) (hu : Ints .u64 w u zs) (hz : U64s zs) (h : (matB p r c xs && vecB p r zs) = true) :
    Calls Try.prog 22 #[.int .u64 p, u, matV r c v] w (RetL (leftL p r.toNat c.toNat xs zs) w) := by
  rw [Bool.and_eq_true] at h
  obtain ⟨m, n, rfl, rfl, ok⟩ := MatOk.of hx h.1
  obtain ⟨k1, k2⟩ := ok.vec hz h.2
  exact rmLeft p m n v u xs zs w ok.hp hv hu ok.hx k1 ok.hm.2 ok.hn.2 ok.hl k2
theorem mul_g {r' c' : Int} (h0 : 0 ≤ p) (h1 : p ≤ 18446744073709551615) (hv : Ints .u64 w v xs) (hx : U64s xs) (hu : Ints .u64 w u zs) (hz : U64s zs) :
    Calls Try.prog 14 #[.int .u64 p, matV r c v, matV r' c' u] w (RetGM (matB p r c xs && matB p r' c' zs && decide (c = r')) r c' (mulL p r.toNat c.toNat c'.toNat xs zs) w) := by
  cases h : (matB p r c xs && matB p r' c' zs && decide (c = r')) with
  | false => exact (mxMul_no p r c r' c' v u xs zs w h0 h1 hv hx hu hz h).mono fun _ _ h => noGM h
  | true =>
    rw [Bool.and_eq_true, Bool.and_eq_true, decide_eq_true_eq] at h
    obtain ⟨m, n, rfl, rfl, ok⟩ := MatOk.of hx h.1.1
    obtain ⟨n', q, e1, rfl, oky⟩ := MatOk.of hz h.1.2
    obtain rfl : n = n' := by have := h.2; omega
    subst e1
    exact (mxMul_yes p m n q v u xs zs w ok oky hv hu).mono fun _ _ h => h.g
theorem rmul_g {r' c' : Int} (hv : Ints .u64 w v xs) (hx : U64s xs) (hu : Ints .u64 w u zs) (hz : U64s zs) (h : (matB p r c xs && matB p r' c' zs && decide (c = r')) = true) :
    Calls Try.prog 24 #[.int .u64 p, matV r c v, matV r' c' u] w (RetM r c' (mulL p r.toNat c.toNat c'.toNat xs zs) w) := by
  rw [Bool.and_eq_true, Bool.and_eq_true, decide_eq_true_eq] at h
  obtain ⟨m, n, rfl, rfl, ok⟩ := MatOk.of hx h.1.1
  obtain ⟨n', q, e1, rfl, oky⟩ := MatOk.of hz h.1.2
  obtain rfl : n = n' := by have := h.2; omega
  subst e1
  exact rmMul p m n q v u xs zs w ok.hp hv hu ok.hx oky.hx ok.hm.2 ok.hn.2 oky.hn.2 ok.hl oky.hl
theorem turn_g (h0 : 0 ≤ p) (h1 : p ≤ 18446744073709551615) (hv : Ints .u64 w v xs) (hx : U64s xs) :
    Calls Try.prog 15 #[.int .u64 p, matV r c v] w (RetGM (matB p r c xs) c r (turnL r.toNat c.toNat xs) w) := by
  cases h : matB p r c xs with
  | false => exact (mxTurn_no p r c v xs w h0 h1 hv hx h).mono fun _ _ h => noGM h
  | true =>
    obtain ⟨m, n, rfl, rfl, ok⟩ := MatOk.of hx h
    exact (mxTurn_yes p m n v xs w ok hv).mono fun _ _ h => h.g
theorem rturn_g (hv : Ints .u64 w v xs) (hx : U64s xs) (h : matB p r c xs = true) :
    Calls Try.prog 25 #[matV r c v] w (RetM c r (turnL r.toNat c.toNat xs) w) := by
  obtain ⟨m, n, rfl, rfl, ok⟩ := MatOk.of hx h
  exact rmTurn m n v xs w hv ok.hm.2 ok.hn.2 ok.hl
theorem thin_g (h0 : 0 ≤ p) (h1 : p ≤ 18446744073709551615) (hv : Ints .u64 w v xs) (hx : U64s xs) :
    Calls Try.prog 16 #[.int .u64 p, matV r c v] w (RetGS (matB p r c xs) r c (thB xs r.toNat c.toNat) (thC xs c.toNat (r.toNat * c.toNat)) (thV xs (r.toNat * c.toNat)) w) := by
  cases h : matB p r c xs with
  | false =>
    refine (mxThin_no p r c v xs w h0 h1 hv hx h).mono ?_
    rintro _ w' ⟨rfl, x⟩
    exact ⟨0, 0, .slice none 0 0, .slice none 0 0, .slice none 0 0, [], [], [], 1, rfl, Ints.nil, Ints.nil, Ints.nil, rfl, rfl, fun h => absurd h (by decide), x⟩
  | true =>
    obtain ⟨m, n, rfl, rfl, ok⟩ := MatOk.of hx h
    refine (mxThin_yes p m n v xs w ok hv).mono ?_
    rintro _ w' ⟨vb, vc, vv, rfl, i1, i2, i3, x⟩
    exact ⟨_, _, vb, vc, vv, _, _, _, 0, rfl, i1, i2, i3, rfl, rfl, fun _ => ⟨rfl, rfl, rfl, rfl⟩, x⟩
/-- what is thin, as the document's own answers see it -/
theorem rthin_g (hx : U64s xs) (h : matB p r c xs = true) {vb vc vv : Value} (hb : Ints .i64 w vb (thB xs r.toNat c.toNat)) (hc : Ints .i64 w vc (thC xs c.toNat (r.toNat * c.toNat))) (hv : Ints .u64 w vv (thV xs (r.toNat * c.toNat))) :
    Calls Try.prog 19 #[.int .u64 p, spV r c vb vc vv] w (Ret (.bool true) w) ∧ Calls Try.prog 26 #[spV r c vb vc vv] w (RetM r c xs w) := by
  obtain ⟨m, n, rfl, rfl, ok⟩ := MatOk.of hx h
  simp only [Int.toNat_natCast] at hb hc hv
  have hp2 := rightB_true ok.hp
  have sp := spOk_of ok
  have hle : (thC xs n (m * n)).length ≤ 4096 := by
    have h1 := nz_len xs (m * n)
    have h2 : m * n ≤ 64 * 64 := Nat.mul_le_mul ok.hm.2 ok.hn.2
    rw [thC_len]; unfold nz at h1; omega
  have hcol : ∀ k, k < (thC xs n (m * n)).length → -9223372036854775808 ≤ (thC xs n (m * n)).getD k 0 ∧ (thC xs n (m * n)).getD k 0 ≤ 9223372036854775807 := fun k hk => by
    obtain ⟨i, h1, h2, h3⟩ := row_of (m := m) (cs := thC xs n (m * n)) sp.b0 m k (by rw [sp.bm]; omega)
    obtain ⟨_, c2, c3, _⟩ := sp.row i h1 k h2 h3
    have := ok.hn
    omega
  have hbeg : ∀ k, k < (thB xs m n).length → -9223372036854775808 ≤ (thB xs m n).getD k 0 ∧ (thB xs m n).getD k 0 ≤ 9223372036854775807 := fun k hk => by
    have := sp.bg (show k ≤ m by rw [sp.lb] at hk; omega)
    omega
  constructor
  · exact (rmSparse p m n vb vc vv _ _ _ w (by omega) (by omega) hb hc hv ((thV_rng ok).u64 hp2.2) hcol hbeg).mono fun _ _ h => h.yes ⟨m, n, rfl, rfl, sp⟩
  · have h1 := rmWhole m n vb vc vv _ _ _ w hb hc hv ok.hm ok.hn.2 sp.lb sp.lc (by omega) sp.b0 sp.bm sp.mono
    rw [show grid m n (whAt (thB xs m n) (thC xs n (m * n)) (thV xs (m * n))) = xs from whole_of ok] at h1
    exact h1
theorem whole_g {vb vc vv : Value} {bs cs vs : List Int} {Sp : Bool} (hS : Sp = true ↔ SpIs p r c bs cs vs) (h0 : 0 ≤ p) (h1 : p ≤ 18446744073709551615) (hb : Ints .i64 w vb bs) (hc : Ints .i64 w vc cs) (hv : Ints .u64 w vv vs) (hx : U64s vs) :
    Calls Try.prog 27 #[.int .u64 p, spV r c vb vc vv] w (RetGM Sp r c (wholeL r.toNat c.toNat bs cs vs) w) := by
  cases Sp with
  | false => exact (mxWhole_no p r c vb vc vv bs cs vs w h0 h1 hb hc hv hx (fun h => absurd (hS.2 h) (by decide))).mono fun _ _ h => noGM h
  | true =>
    obtain ⟨m, n, rfl, rfl, ok⟩ := hS.1 rfl
    exact (mxWhole_yes p m n vb vc vv bs cs vs w ok hb hc hv hx).mono fun _ _ h => h.g
theorem rwhole_g {vb vc vv : Value} {bs cs vs : List Int} (hS : SpIs p r c bs cs vs) (hb : Ints .i64 w vb bs) (hc : Ints .i64 w vc cs) (hv : Ints .u64 w vv vs) (hl : cs.length ≤ 1000000) :
    Calls Try.prog 26 #[spV r c vb vc vv] w (RetM r c (wholeL r.toNat c.toNat bs cs vs) w) := by
  obtain ⟨m, n, rfl, rfl, ok⟩ := hS
  exact rmWhole m n vb vc vv bs cs vs w hb hc hv ok.m1 ok.n1.2 ok.lb ok.lc hl ok.b0 ok.bm ok.mono
theorem sptimes_g {vb vc vv : Value} {bs cs vs : List Int} {Sp : Bool} (hS : Sp = true ↔ SpIs p r c bs cs vs) (h0 : 0 ≤ p) (h1 : p ≤ 18446744073709551615) (hb : Ints .i64 w vb bs) (hc : Ints .i64 w vc cs) (hv : Ints .u64 w vv vs) (hx : U64s vs) (hu : Ints .u64 w u zs) (hz : U64s zs) :
    Calls Try.prog 28 #[.int .u64 p, spV r c vb vc vv, u] w (RetG (Sp && vecB p c zs) (timesL p r.toNat c.toNat (wholeL r.toNat c.toNat bs cs vs) zs) w) := by
  cases h : (Sp && vecB p c zs) with
  | false => exact (mxSparseTimes_no p r c vb vc vv u bs cs vs zs w h0 h1 hb hc hv hx hu hz (fun k => by rw [hS.2 k.1, k.2] at h; cases h)).mono fun _ _ h => noG h
  | true =>
    rw [Bool.and_eq_true] at h
    obtain ⟨m, n, rfl, rfl, ok⟩ := hS.1 h.1
    obtain ⟨_, k1, k2⟩ := vecB_true hz h.2
    exact (mxSparseTimes_yes p m n vb vc vv u bs cs vs zs w ok hb hc hv (rng_of hx ok.hv) hu k1 (by omega)).mono fun _ _ h => h.g
theorem spleft_g {vb vc vv : Value} {bs cs vs : List Int} {Sp : Bool} (hS : Sp = true ↔ SpIs p r c bs cs vs) (h0 : 0 ≤ p) (h1 : p ≤ 18446744073709551615) (hb : Ints .i64 w vb bs) (hc : Ints .i64 w vc cs) (hv : Ints .u64 w vv vs) (hx : U64s vs) (hu : Ints .u64 w u zs) (hz : U64s zs) :
    Calls Try.prog 29 #[.int .u64 p, u, spV r c vb vc vv] w (RetG (Sp && vecB p r zs) (leftL p r.toNat c.toNat (wholeL r.toNat c.toNat bs cs vs) zs) w) := by
  cases h : (Sp && vecB p r zs) with
  | false => exact (mxSparseLeft_no p r c vb vc vv u bs cs vs zs w h0 h1 hb hc hv hx hu hz (fun k => by rw [hS.2 k.1, k.2] at h; cases h)).mono fun _ _ h => noG h
  | true =>
    rw [Bool.and_eq_true] at h
    obtain ⟨m, n, rfl, rfl, ok⟩ := hS.1 h.1
    obtain ⟨_, k1, k2⟩ := vecB_true hz h.2
    exact (mxSparseLeft_yes p m n vb vc vv u bs cs vs zs w ok hb hc hv (rng_of hx ok.hv) hu k1 (by omega)).mono fun _ _ h => h.g
theorem one_g (n : Int) : Calls Try.prog 30 #[.int .i64 n] w (RetGM (sideB n) n n (oneL n.toNat) w) := by
  cases h : sideB n with
  | false => exact (mxOne_no n w h).mono fun _ _ h => noGM h
  | true =>
    have h' : 1 ≤ n ∧ n ≤ 64 := of_decide_eq_true h
    obtain ⟨m, rfl⟩ := Int.eq_ofNat_of_zero_le (show 0 ≤ n by omega)
    exact (mxOne_yes m w (by omega)).mono fun _ _ h => h.g
/-- a right thin one's whole matrix is right -/
theorem whole_ok {bs cs vs : List Int} (hS : SpIs p r c bs cs vs) (hx : U64s vs) : matB p r c (wholeL r.toNat c.toNat bs cs vs) = true ∧ U64s (wholeL r.toNat c.toNat bs cs vs) := by
  obtain ⟨m, n, rfl, rfl, ok⟩ := hS
  have hp := (hasB_true ok.hv).1
  have k : MatOk p m n (wholeL m n bs cs vs) := ⟨hp, grid_rng fun _ _ _ _ => wh_rng (m := m) (n := n) (rightB_true hp).1 (rng_of hx ok.hv) _ _ _, ok.m1, ok.n1, grid_len _ _ _⟩
  exact ⟨k.b, k.u64⟩
theorem rsame_g {r' c' : Int} {ys : List Int} (h1 : r = r') (h2 : c = c') (h3 : xs = ys) (hv : Ints .u64 w v xs) (hu : Ints .u64 w u ys) :
    Calls Try.prog 23 #[matV r c v, matV r' c' u] w (Ret (.bool true) w) := by
  have h := rmSame r c r' c' v u xs ys w hv hu
  rwa [decide_eq_true (⟨h1, h2, h3⟩ : r = r' ∧ c = c' ∧ xs = ys)] at h
theorem boxesMMS (w : World) (t t' t'' : TypeId) (A B C : Array Value) :
    Blk (((w.alloc (.cells A t)).alloc (.cells B t')).alloc (.cells C t'')) w.heap.size t A ∧ Blk (((w.alloc (.cells A t)).alloc (.cells B t')).alloc (.cells C t'')) (w.heap.size + 1) t' B ∧
    Blk (((w.alloc (.cells A t)).alloc (.cells B t')).alloc (.cells C t'')) (w.heap.size + 1 + 1) t'' C ∧ Ext w (((w.alloc (.cells A t)).alloc (.cells B t')).alloc (.cells C t'')) :=
  ⟨(Blk.new w t A).ext (((Ext.refl _).alloc _).alloc _), (Blk.at_ (by rw [alloc_size])).ext ((Ext.refl _).alloc _), Blk.at_ (by rw [alloc_size, alloc_size]), (((Ext.refl w).alloc _).alloc _).alloc _⟩
end Go.Proofs.Ytlociefncogjeaa
