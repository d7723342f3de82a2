/- What the texts Pm2, Pm3, Sh1 show, in one text. -/
import Derived.Test.YtnfnommiabalfaaBun16
import Derived.Test.YtnfnommiabalfaaBun06
/- Package perm: an order done to things of any kind; Then, Do. -/
namespace Go.Proofs.Ytnfnommiabalfaa
open Go.RowKit Go.Maps

/-- in the world w the slice u reads as the values us -/
def Vals (w : World) (u : Value) (us : List Value) : Prop :=
  ∃ (a : Option Addr) (cap : Nat), u = .slice a us.length cap ∧ us.length ≤ cap ∧ cap ≤ 9223372036854775807 ∧
    (0 < us.length → ∃ b off, a = some ⟨b, off, none⟩ ∧ b < w.heap.size ∧ ∀ j x, us[j]? = some x → w.cell? ⟨b, off + j, none⟩ = some x)
theorem Vals.ext {w w' : World} {u : Value} {us : List Value} (h : Vals w u us) (he : Ext w w') : Vals w' u us := by
  obtain ⟨a, cap, h1, h2, h3, h4⟩ := h
  refine ⟨a, cap, h1, h2, h3, fun hp => ?_⟩
  obtain ⟨b, off, ha, hb, hc⟩ := h4 hp
  exact ⟨b, off, ha, Nat.lt_of_lt_of_le hb he.size, fun j x hj => (he.cells _ _ hb).trans (hc j x hj)⟩
theorem getD_some {α : Type} {l : List α} {j : Nat} {x : α} (d : α) (h : l[j]? = some x) : l.getD j d = x := by rw [List.getD, h]; rfl
theorem Ints.vals {k : IntKind} {w : World} {v : Value} {xs : List Int} (h : Ints k w v xs) : Vals w v (xs.map (Value.int k)) := by
  obtain ⟨a, cap, h1, h2, h3, h4⟩ := h
  refine ⟨a, cap, by rw [h1, List.length_map], by rw [List.length_map]; exact h2, h3, fun hp => ?_⟩
  rw [List.length_map] at hp
  obtain ⟨b, off, ha, hb, hc⟩ := h4 hp
  refine ⟨b, off, ha, hb, fun j x hj => ?_⟩
  rw [List.getElem?_map] at hj
  obtain ⟨y, hy, rfl⟩ := Option.map_eq_some_iff.1 hj
  rw [hc j (List.getElem?_eq_some_iff.1 hy).1, getD_some 0 hy]
theorem Vals.ints {k : IntKind} {w : World} {v : Value} {xs : List Int} (h : Vals w v (xs.map (Value.int k))) : Ints k w v xs := by
  obtain ⟨a, cap, h1, h2, h3, h4⟩ := h
  rw [List.length_map] at h1 h2 h4
  refine ⟨a, cap, h1, h2, h3, fun hp => ?_⟩
  obtain ⟨b, off, ha, hb, hc⟩ := h4 hp
  refine ⟨b, off, ha, hb, fun j hj => hc j _ ?_⟩
  simp [List.getD, hj]
/-- what an order does to things of any kind -/
def doG {α : Type} (d : α) (p : List Int) (x : List α) : List α := p.map fun k => x.getD k.toNat d
theorem doG_len {α : Type} (d : α) (p : List Int) (x : List α) : (doG d p x).length = p.length := by simp [doG]
theorem doG_get {α : Type} {d : α} {p : List Int} {x : List α} {k : Nat} (hk : k < p.length) : (doG d p x)[k]? = some (x.getD (p.getD k 0).toNat d) := by
  simp [doG, List.getD, hk]
/-- a block whose first so many cells are known -/
theorem Blk.vals {w : World} {g n : Nat} {t : TypeId} {cs : Array Value} {us : List Value} (h : Blk w g t cs) (hl : us.length = n) (hn : n ≤ 9223372036854775807) (hc : ∀ j, j < n → cs[j]? = us[j]?) : Vals w (.slice (some ⟨g, 0, none⟩) n n) us := by
  subst hl
  refine ⟨_, _, rfl, Nat.le_refl _, hn, fun _ => ⟨g, 0, rfl, h.lt, fun j x hj => ?_⟩⟩
  rw [Nat.zero_add, h.cell j, hc j (List.getElem?_eq_some_iff.1 hj).1]; exact hj
/-- things that a call answers, or that something isn't right -/
def RetVals (ok : Bool) (us : List Value) (w : World) (e : Ending) (w' : World) : Prop :=
  ∃ (v : Value) (l' : List Value) (ee : Int), e = .returned (.tuple #[v, .int .i64 ee]) ∧ Vals w' v l' ∧ ee = (if ok = true then 0 else 1) ∧ l' = (if ok = true then us else []) ∧ Ext w w'
theorem Vals.nil {w : World} : Vals w (.slice none 0 0) [] := ⟨none, 0, rfl, by simp, by omega, by simp⟩
theorem make_rows {P : Program} (t e : TypeId) (bytes : Nat) (hb : bytes ≤ 24) (ht : P.underlying t = some (.slice e)) (hi : (P.info? e).map (fun i => (i.zero, i.size, i.bytes)) = some (some (.slice none 0 0), 1, bytes))
    (n c : Nat) (hnc : n ≤ c) (hc : c ≤ 1000000) (w : World) :
    (Instr.makeSlice t (.int .i64 n) (.int .i64 c)).run P w = .ok (.slice (some ⟨w.heap.size, 0, none⟩) n c) (w.alloc (.cells (madeCells #[Value.slice none 0 0] c) e)) := by
  obtain ⟨i, h1, h2, h3, h4⟩ := info_parts hi
  have hbc : i.bytes * c ≤ 24 * c := Nat.mul_le_mul_right _ (by omega)
  have hbi : (i.bytes : Int) * (c : Int) ≤ 281474976710656 := by rw [← Int.natCast_mul]; omega
  have := run_make (P := P) w t e i _ ht h1 h2 .i64 .i64 n c (by omega) (by omega) hbi (by omega)
  rw [this, h3]
  simp [Value.cells]
/-- a slice, as a value -/
def slV (x : Option Addr × Nat × Nat) : Value := .slice x.1 x.2.1 x.2.2

theorem thenL_doG (p q : List Int) : doG 0 q p = thenL p q := rfl
theorem doL_doG (p x : List Int) : doG 0 p x = doL p x := rfl
end Go.Proofs.Ytnfnommiabalfaa
/- Package perm: what undoes an order, and its sign; what an order answers, if it is one. -/
namespace Go.Proofs.Ytnfnommiabalfaa
open Go.RowKit Go.Maps

/-- a sign, of so many pairs -/
def sgnN (m : Nat) : Int := if m % 2 = 0 then 1 else -1
theorem sgnN_succ (m : Nat) : sgnN (m + 1) = -sgnN m := by
  unfold sgnN
  rcases Nat.mod_two_eq_zero_or_one m with h | h
  · rw [if_neg (by omega), if_pos h]
  · rw [if_pos (by omega), if_neg (by omega)]; rfl
theorem sgnN_or (m : Nat) : -1 ≤ sgnN m ∧ sgnN m ≤ 1 := by unfold sgnN; split <;> simp

set_option maxRecDepth 100000 in
set_option maxHeartbeats 1000000 in
theorem ordSign (v : Value) (p : List Int) (w : World) (hv : Ints .i64 w v p) (h0 : 0 < p.length) (hn : p.length ≤ 64) : Calls Try.prog 79 #[v] w (Ret (.int .i64 (sgnL p)) w) := by
  have HI := hid (fun i (h : i < p.length) => inv_take_succ h)
  have HG := hid (fun i k (h : k < p.length) => gtTo_succ (i := i) h)
  have HS := hid (show sgnL p = sgnN (invL (p.take p.length)) by rw [List.take_length]; rfl)
  obtain ⟨S0, hS0⟩ : ∃ S, sgnL p = S := ⟨_, rfl⟩
  rw [hS0] at HS ⊢
  clear hS0
  obtain ⟨a, cap, rfl, k1, k2, k3⟩ := hv
  obtain ⟨b, off, rfl, hb, hc⟩ := k3 h0
  have Hc := hid hc
  obtain ⟨n, en⟩ : ∃ n, p.length = n := ⟨_, rfl⟩
  rw [en] at HI HG HS k1 Hc h0 hn ⊢
  clear k3 hc en
  go_enter Try.func79, Try.ntmps79
  go_wp2_with fail
  go_loopw [10, 3] (fun iv sv wr => ∃ (i : Nat) (S : Int), iv = .int .i64 i ∧ sv = .int .i64 S ∧ i ≤ n ∧ Hid (S = sgnN (invL (p.take i))) ∧ Ext w wr) (fun iv _ _ => n - (intOf iv).toNat)
  case atStart => exact ⟨0, 1, rfl, rfl, Nat.zero_le _, hid (by simp [invL, sgnN]), Ext.refl _⟩
  case round =>
    obtain ⟨i, S, rfl, rfl, hi, hS, hw⟩ := hrel
    by_cases hlt : i < n
    · rename World => wo
      have gi := (hw.cells _ _ hb).trans (Hc.out i hlt)
      obtain ⟨x, ex⟩ : ∃ x, p.getD i 0 = x := ⟨_, rfl⟩
      rw [ex] at gi
      have Ex := hid ex
      clear ex
      go_wp2_with fail
      go_loopw [19, 3] (fun kv sv wr => ∃ (k : Nat) (S : Int), kv = .int .i64 k ∧ sv = .int .i64 S ∧ k ≤ i ∧ Hid (S = sgnN (invL (p.take i) + gtTo p i k)) ∧ Ext wo wr) (fun kv _ _ => i - (intOf kv).toNat)
      case atStart => exact ⟨0, S, rfl, rfl, Nat.zero_le _, hid (by rw [hS.out]; simp [gtTo]), Ext.refl _⟩
      case round =>
        clear hS
        obtain ⟨k, S, rfl, rfl, hk, hS, hwi⟩ := hrel
        by_cases hlk : k < i
        · have g2 := ((hw.trans hwi).cells _ _ hb).trans (Hc.out k (by omega))
          have hs := HG.out i k (by omega)
          rw [Ex.out] at hs
          obtain ⟨y, ey⟩ : ∃ y, p.getD k 0 = y := ⟨_, rfl⟩
          rw [ey] at g2 hs
          have hSb : -1 ≤ S ∧ S ≤ 1 := hS.out ▸ sgnN_or _
          clear ey
          by_cases hxy : x < y
          · rw [if_pos hxy] at hs
            have e := hid (show -S = sgnN (invL (p.take i) + gtTo p i (k + 1)) by rw [hs, ← Nat.add_assoc, sgnN_succ, hS.out])
            clear hs
            go_wp2_with fail
            go_roundw
            case rel => exact ⟨k + 1, -S, by go_num, by go_num, by omega, e, hwi⟩
            case measure => simp [intOf]; omega
          · rw [if_neg hxy] at hs
            have e := hid (show S = sgnN (invL (p.take i) + gtTo p i (k + 1)) by rw [hs]; exact hS.out)
            clear hs
            go_wp2_with fail
            go_roundw
            case rel => exact ⟨k + 1, S, by go_num, rfl, by omega, e, hwi⟩
            case measure => simp [intOf]; omega
        · obtain rfl : k = i := by omega
          have e := hid (show S = sgnN (invL (p.take (k + 1))) by rw [HI.out k hlt]; exact hS.out)
          go_wp2_with fail
          go_roundw
          case rel => exact ⟨k + 1, S, by go_num, rfl, by omega, e, hw.trans hwi⟩
          case measure => simp [intOf]; omega
    · obtain rfl : n = i := by omega
      go_wp2_with fail
      go_ret
      exact ⟨ret_int (by rw [HS.out, hS.out]), hw⟩

set_option maxHeartbeats 400000 in
theorem askSign (v : Value) (p : List Int) (w : World) (hv : Ints .i64 w v p) : Calls Try.prog 78 #[v, .func (.func 79) #[] #[]] w (Ret (.tuple #[.int .i64 (if ordB p = true then sgnL p else 0), .int .i64 (if ordB p = true then 0 else 1)]) w) := by
  have C1 := qmRight v p w hv
  have C2 := hid fun (hB : ordB p = true) (W : World) (hW : Ext w W) => ordSign v p W (hv.ext hW) (ordB_iff.1 hB).1 (ordB_iff.1 hB).2.1
  cases hp : ordB p with
  | false =>
    rw [hp] at C1
    have C := hid C1
    clear C1 C2 hp
    go_enter Try.func78, Try.ntmps78
    go_wp2_with (go_at_call 87; refine C.out.mono ?_; rintro _ w1 ⟨rfl, x1⟩)
    go_ret2
    exact ⟨rfl, x1⟩
  | true =>
    rw [hp] at C1
    have C := hid C1
    have D := hid (C2.out hp)
    clear C1 C2 hp
    go_enter Try.func78, Try.ntmps78
    go_wp2_with (first
      | (go_at_call 87; refine C.out.mono ?_; rintro _ w1 ⟨rfl, x1⟩)
      | (go_at_call 79; refine (D.out _ x1).mono ?_; rintro _ w2 ⟨rfl, x2⟩))
    go_ret2
    exact ⟨rfl, x1.trans x2⟩
set_option maxHeartbeats 400000 in
theorem qmSign (v : Value) (p : List Int) (w : World) (hv : Ints .i64 w v p) : Calls Try.prog 47 #[v] w (Ret (.tuple #[.int .i64 (if ordB p = true then sgnL p else 0), .int .i64 (if ordB p = true then 0 else 1)]) w) := by
  have C := hid (askSign v p w hv)
  obtain ⟨a, ea⟩ : ∃ a, (if ordB p = true then sgnL p else 0) = a := ⟨_, rfl⟩
  obtain ⟨b, eb⟩ : ∃ b : Int, (if ordB p = true then 0 else 1) = b := ⟨_, rfl⟩
  rw [ea, eb] at C ⊢
  clear hv ea eb
  go_enter Try.func47, Try.ntmps47
  go_wp2_with (go_at_call 78; refine C.out.mono ?_; rintro _ w1 ⟨rfl, x1⟩)
  go_ret2
  exact ⟨rfl, x1⟩
end Go.Proofs.Ytnfnommiabalfaa
/- Package shape: what may be a side, rows that rise, lists of so many numbers. -/
namespace Go.Proofs.Ytnfnommiabalfaa
open Go.RowKit Go.Maps

theorem shSide (n : Int) (w : World) : Calls Try.prog 32 #[.int .i64 n] w fun e w' => e = .returned (.bool (sideB n)) ∧ w = w' := by
  by_cases h : 1 ≤ n
  · by_cases h' : n ≤ 64
    all_goals
      go_enter Try.func32, Try.ntmps32
      go_wp2
      go_ret
      exact ⟨ret_bool (by simp [sideB]; omega), rfl⟩
  · go_enter Try.func32, Try.ntmps32
    go_wp2
    go_ret
    exact ⟨ret_bool (by simp [sideB]; omega), rfl⟩
/-- the row ahead of one -/
def aheadZ (R : List Int) : Nat → Int
  | 0 => -1
  | k + 1 => R.getD k 0
/-- are rows rising, from 0 on? -/
def risesB (R : List Int) (rows : Int) : Bool := decide (∀ k, k < R.length → aheadZ R k < R.getD k 0 ∧ R.getD k 0 < rows)
set_option maxRecDepth 100000 in
set_option maxHeartbeats 1000000 in
theorem shRises (R : List Int) (rows : Int) (v : Value) (w : World) (hv : Ints .i64 w v R) : Calls Try.prog 33 #[v, .int .i64 rows] w (Ret (.bool (risesB R rows)) w) := by
  obtain ⟨Z, hZ⟩ : ∃ Z, risesB R rows = Z := ⟨_, rfl⟩
  rw [hZ]
  have HZ := hid hZ
  obtain ⟨a, cap, rfl, k1, k2, k3⟩ := hv
  have K3 := hid k3
  obtain ⟨n, en⟩ : ∃ n, R.length = n := ⟨_, rfl⟩
  have En := hid en
  rw [en] at k1 K3 ⊢
  clear k3 hZ en
  go_enter Try.func33, Try.ntmps33
  go_wp2_with fail
  go_loopw [10, 5] (fun iv av wr => ∃ (j : Nat) (z : Int), iv = .int .i64 j ∧ av = .int .i64 z ∧ j ≤ n ∧ Hid (z = aheadZ R j) ∧ Hid (∀ t, t < j → aheadZ R t < R.getD t 0 ∧ R.getD t 0 < rows) ∧ Ext w wr) (fun iv _ _ => n - (intOf iv).toNat)
  case atStart => exact ⟨0, -1, rfl, rfl, Nat.zero_le _, hid rfl, hid (fun t ht => absurd ht (Nat.not_lt_zero _)), Ext.refl _⟩
  case round =>
    obtain ⟨j, z, rfl, rfl, hj, hz, hall, hw⟩ := hrel
    by_cases hlt : j < n
    · obtain ⟨b, off, rfl, hb, hc⟩ := K3.out (by omega)
      have g1 := (hw.cells _ _ hb).trans (hc j hlt)
      obtain ⟨y, ey⟩ : ∃ y, R.getD j 0 = y := ⟨_, rfl⟩
      rw [ey] at g1
      have Ey := hid ey
      clear ey hc
      have No := hid fun (h : ¬ (z < y ∧ y < rows)) => (show Z = false by
        rw [← HZ.out]
        refine decide_eq_false fun h2 => h ?_
        have := h2 j (by rw [En.out]; exact hlt)
        rw [Ey.out, ← hz.out] at this
        exact this)
      by_cases c1 : y ≤ z
      · have b1 : decide (y ≤ z) = true := decide_eq_true c1
        have N := hid (No.out (by omega))
        clear c1
        go_wp2_with fail
        go_ret
        exact ⟨ret_bool N.out.symm, hw⟩
      have b1 : decide (y ≤ z) = false := decide_eq_false c1
      by_cases c2 : rows ≤ y
      · have b2 : decide (rows ≤ y) = true := decide_eq_true c2
        have N := hid (No.out (by omega))
        clear c1 c2
        go_wp2_with fail
        go_ret
        exact ⟨ret_bool N.out.symm, hw⟩
      have b2 : decide (rows ≤ y) = false := decide_eq_false c2
      have Y := hid (show z < y ∧ y < rows by omega)
      clear c1 c2
      go_wp2_with fail
      go_roundw
      case rel => exact ⟨j + 1, y, by go_num, rfl, by omega, hid Ey.out.symm, hid (fun t ht => by
        by_cases e : t = j
        · rw [e, ← hz.out, Ey.out]; exact Y.out
        · exact hall.out t (by omega)), hw⟩
      case measure => simp [intOf]; omega
    · obtain rfl : n = j := by omega
      have N := hid (show Z = true by
        rw [← HZ.out]
        exact decide_eq_true fun t ht => hall.out t (by rw [← En.out]; exact ht))
      go_wp2_with fail
      go_ret
      exact ⟨ret_bool N.out.symm, hw⟩

/-- the first of n of whom something holds; -1 if of none -/
def Fst (pr : Nat → Bool) (n : Nat) (i : Int) : Prop := (i = -1 ∧ ∀ t, t < n → pr t = false) ∨ ∃ j, j < n ∧ i = (j : Int) ∧ pr j = true ∧ ∀ t, t < j → pr t = false
set_option maxRecDepth 100000 in
set_option maxHeartbeats 1000000 in
theorem index_each (cp : Value) (pr : Nat → Bool) (v : Value) (ls : List (List Int)) (w : World) (hv : UsL w v ls)
    (H : ∀ (j : Nat), j < ls.length → ∀ (W : World), Ext w W → ∀ u, Ints .u64 W u (ls.getD j []) → Calls Try.prog 84 #[u, cp] W (Ret (.bool (pr j)) W)) :
    Calls Try.prog 67 #[v, .func (.func 84) #[] #[cp]] w fun e w' => ∃ i : Int, e = .returned (.int .i64 i) ∧ Fst pr ls.length i ∧ Ext w w' := by
  have C := hid H
  obtain ⟨a, cap, rfl, k1, k2, k3⟩ := hv
  have K3 := hid k3
  obtain ⟨n, en⟩ : ∃ n, ls.length = n := ⟨_, rfl⟩
  rw [en] at k1 K3 C ⊢
  clear k3 en H
  go_enter Try.func67, Try.ntmps67
  go_wp2_with fail
  go_loopw [8] (fun iv wr => ∃ (j : Nat), iv = .int .i64 j ∧ j ≤ n ∧ Hid (∀ t, t < j → pr t = false) ∧ Ext w wr) (fun iv _ => n - (intOf iv).toNat)
  case atStart => exact ⟨0, rfl, Nat.zero_le _, hid (fun t ht => absurd ht (Nat.not_lt_zero _)), Ext.refl _⟩
  case round =>
    obtain ⟨j, rfl, hj, hall, hw⟩ := hrel
    by_cases hlt : j < n
    · obtain ⟨b, off, rfl, hb, hc⟩ := K3.out (by omega)
      obtain ⟨u, g1, iu⟩ := hc j hlt
      replace g1 := (hw.cells _ _ hb).trans g1
      replace iu := hid (iu.ext hw)
      clear hc
      have C2 := hid (C.out j hlt wr hw u iu.out)
      obtain ⟨B, hB⟩ : ∃ B, pr j = B := ⟨_, rfl⟩
      rw [hB] at C2
      have HB := hid hB
      have iu2 := iu.out
      obtain ⟨au, cu, rfl, -, -, -⟩ := iu2
      clear hB
      cases B
      · go_wp2_with (go_at_call 84; refine C2.out.mono ?_; rintro _ w1 ⟨rfl, x1⟩)
        go_roundw
        case rel => exact ⟨j + 1, by go_num, by omega, hid (fun t ht => by
          by_cases e : t = j
          · rw [e]; exact HB.out
          · exact hall.out t (by omega)), hw.trans x1⟩
        case measure => simp [intOf]; omega
      · go_wp2_with (go_at_call 84; refine C2.out.mono ?_; rintro _ w1 ⟨rfl, x1⟩)
        go_ret
        exact ⟨_, rfl, .inr ⟨j, hlt, rfl, HB.out, hall.out⟩, hw.trans x1⟩
    · obtain rfl : n = j := by omega
      go_wp2_with fail
      go_ret
      exact ⟨_, rfl, .inl ⟨rfl, hall.out⟩, hw⟩
set_option maxRecDepth 100000 in
set_option maxHeartbeats 1000000 in
theorem index_taken (cp : Value) (pr : Nat → Bool) (v : Value) (ls : List (List Int)) (w : World) (hv : UsL w v ls)
    (H : ∀ (j : Nat), j < ls.length → ∀ (W : World), Ext w W → ∀ u, Ints .u64 W u (ls.getD j []) → Calls Try.prog 68 #[u, cp] W (Ret (.bool (pr j)) W)) :
    Calls Try.prog 67 #[v, .func (.func 68) #[] #[cp]] w fun e w' => ∃ i : Int, e = .returned (.int .i64 i) ∧ Fst pr ls.length i ∧ Ext w w' := by
  have C := hid H
  obtain ⟨a, cap, rfl, k1, k2, k3⟩ := hv
  have K3 := hid k3
  obtain ⟨n, en⟩ : ∃ n, ls.length = n := ⟨_, rfl⟩
  rw [en] at k1 K3 C ⊢
  clear k3 en H
  go_enter Try.func67, Try.ntmps67
  go_wp2_with fail
  go_loopw [8] (fun iv wr => ∃ (j : Nat), iv = .int .i64 j ∧ j ≤ n ∧ Hid (∀ t, t < j → pr t = false) ∧ Ext w wr) (fun iv _ => n - (intOf iv).toNat)
  case atStart => exact ⟨0, rfl, Nat.zero_le _, hid (fun t ht => absurd ht (Nat.not_lt_zero _)), Ext.refl _⟩
  case round =>
    obtain ⟨j, rfl, hj, hall, hw⟩ := hrel
    by_cases hlt : j < n
    · obtain ⟨b, off, rfl, hb, hc⟩ := K3.out (by omega)
      obtain ⟨u, g1, iu⟩ := hc j hlt
      replace g1 := (hw.cells _ _ hb).trans g1
      replace iu := hid (iu.ext hw)
      clear hc
      have C2 := hid (C.out j hlt wr hw u iu.out)
      obtain ⟨B, hB⟩ : ∃ B, pr j = B := ⟨_, rfl⟩
      rw [hB] at C2
      have HB := hid hB
      have iu2 := iu.out
      obtain ⟨au, cu, rfl, -, -, -⟩ := iu2
      clear hB
      cases B
      · go_wp2_with (go_at_call 68; refine C2.out.mono ?_; rintro _ w1 ⟨rfl, x1⟩)
        go_roundw
        case rel => exact ⟨j + 1, by go_num, by omega, hid (fun t ht => by
          by_cases e : t = j
          · rw [e]; exact HB.out
          · exact hall.out t (by omega)), hw.trans x1⟩
        case measure => simp [intOf]; omega
      · go_wp2_with (go_at_call 68; refine C2.out.mono ?_; rintro _ w1 ⟨rfl, x1⟩)
        go_ret
        exact ⟨_, rfl, .inr ⟨j, hlt, rfl, HB.out, hall.out⟩, hw.trans x1⟩
    · obtain rfl : n = j := by omega
      go_wp2_with fail
      go_ret
      exact ⟨_, rfl, .inl ⟨rfl, hall.out⟩, hw⟩

/-- have lists so many numbers? -/
def lensB (many : Int) (ls : List (List Int)) : Bool := decide (∀ j, j < ls.length → ((ls.getD j []).length : Int) = many)
theorem lensB_iff {many : Int} {ls : List (List Int)} : lensB many ls = true ↔ ∀ l ∈ ls, (l.length : Int) = many := by
  unfold lensB
  rw [decide_eq_true_iff]
  constructor
  · intro h l hl
    obtain ⟨j, hj, rfl⟩ := List.getElem_of_mem hl
    have := h j hj
    rwa [show ls.getD j [] = ls[j] by simp [List.getD, hj]] at this
  · intro h j hj
    exact h _ (getD_mem [] hj)
set_option maxHeartbeats 400000 in
theorem shEach1 (many : Int) (Bm : Nat) (v : Value) (l : List Int) (w : World) (hv : Ints .u64 w v l) (h1 : w.cell? ⟨Bm, 0, none⟩ = some (.int .i64 many)) :
    Calls Try.prog 84 #[v, .pointer (some ⟨Bm, 0, none⟩)] w (Ret (.bool (decide ((l.length : Int) ≠ many))) w) := by
  obtain ⟨a, cap, rfl, k1, k2, k3⟩ := hv
  clear k3
  go_enter Try.func84, Try.ntmps84
  go_wp2_with fail
  go_ret
  exact ⟨ret_bool (by simp [bne, Bool.beq_eq_decide_eq]), (by repeat (first | exact Ext.refl _ | assumption | refine Ext.drew ?_ | refine Ext.drewN ?_ _ | refine Ext.alloc ?_ _ | refine Ext.trans ?_ (by assumption)))⟩
set_option maxRecDepth 100000 in
set_option maxHeartbeats 1000000 in
theorem shEach (many : Int) (v : Value) (ls : List (List Int)) (w : World) (hv : UsL w v ls) : Calls Try.prog 63 #[v, .int .i64 many] w (Ret (.bool (lensB many ls)) w) := by
  have C := hid fun (W : World) (hW : Ext w W) (h1 : W.cell? ⟨w.heap.size, 0, none⟩ = some (.int .i64 many)) => (show Calls Try.prog 71 #[v, .func (.func 84) #[] #[.pointer (some ⟨w.heap.size, 0, none⟩)]] W (Ret (.bool (!lensB many ls)) W) from by
    have I := hid (index_each (.pointer (some ⟨w.heap.size, 0, none⟩)) (fun j => decide (((ls.getD j []).length : Int) ≠ many)) v ls W (hv.ext hW) fun j hj W2 hW2 u hu => shEach1 many _ u _ W2 hu ((hW2.cells _ _ (cell_lt h1)).trans h1))
    obtain ⟨a, cap, rfl, k1, k2, k3⟩ := hv
    clear k3 h1
    go_enter Try.func71, Try.ntmps71
    go_wp2_with (go_at_call 67; refine I.out.mono ?_; rintro _ w1 ⟨i, rfl, hi, x1⟩)
    go_ret
    refine ⟨ret_bool ?_, x1⟩
    unfold lensB
    rcases hi with ⟨rfl, h⟩ | ⟨j, hj, rfl, h, h2⟩
    · rw [decide_eq_true (p := ∀ j, j < ls.length → ((ls.getD j []).length : Int) = many) (fun t ht => by simpa using h t ht)]
      rfl
    · rw [decide_eq_false (p := ∀ j, j < ls.length → ((ls.getD j []).length : Int) = many) (fun h3 => absurd (h3 j hj) (of_decide_eq_true h))]
      simp)
  have hb := (show Blk (w.alloc (.cells #[.int .i64 many] 3)) w.heap.size 3 #[.int .i64 many] from Blk.new w _ _)
  have C2 := hid (C.out _ ((Ext.refl w).alloc _) (hb.cell 0))
  obtain ⟨a, cap, rfl, k1, k2, k3⟩ := hv
  clear k3 hb C
  go_enter Try.func63, Try.ntmps63
  go_wp2_with (go_at_call 71; refine C2.out.mono ?_; rintro _ w1 ⟨rfl, x1⟩)
  go_ret
  exact ⟨ret_bool (by simp), (by repeat (first | exact Ext.refl _ | assumption | refine Ext.drew ?_ | refine Ext.drewN ?_ _ | refine Ext.alloc ?_ _ | refine Ext.trans ?_ (by assumption)))⟩
/-- have C and U as many lists, of as many numbers, as they must? -/
def fitsB (rows cols : Int) (R : List Int) (C U : List (List Int)) : Bool := decide ((C.length : Int) = rows) && (lensB R.length C && (decide (U.length = R.length) && lensB cols U))
set_option maxRecDepth 100000 in
set_option maxHeartbeats 1000000 in
theorem shFits (rows cols : Int) (R K : List Int) (C U : List (List Int)) (rv kv cv uv : Value) (w : World) (hc : ClmR w rv kv cv uv R K C U) :
    Calls Try.prog 34 #[.agg #[rv, kv, cv, uv], .int .i64 rows, .int .i64 cols] w (Ret (.bool (fitsB rows cols R C U)) w) := by
  have E1 := hid fun (W : World) (hW : Ext w W) => shEach R.length cv C W (hc.c.ext hW)
  have E2 := hid fun (W : World) (hW : Ext w W) => shEach cols uv U W (hc.u.ext hW)
  unfold fitsB
  obtain ⟨B2, e2⟩ : ∃ B, lensB R.length C = B := ⟨_, rfl⟩
  obtain ⟨B4, e4⟩ : ∃ B, lensB cols U = B := ⟨_, rfl⟩
  rw [e2] at E1 ⊢; rw [e4] at E2 ⊢
  clear e2 e4
  obtain ⟨B1, e1⟩ : ∃ B, decide ((C.length : Int) = rows) = B := ⟨_, rfl⟩
  obtain ⟨B3, e3⟩ : ∃ B, decide (U.length = R.length) = B := ⟨_, rfl⟩
  rw [e1, e3]
  have d1 : ((C.length : Int) == rows) = B1 := by rw [← e1]; simp [Bool.beq_eq_decide_eq]
  have d3 : ((U.length : Int) == (R.length : Int)) = B3 := by rw [← e3]; simp [Bool.beq_eq_decide_eq]; omega
  clear e1 e3
  obtain ⟨h1, h2, h3, h4⟩ := hc
  obtain ⟨a1, c1, rfl, -, -, -⟩ := h1
  obtain ⟨a2, c2, rfl, -, -, -⟩ := h2
  obtain ⟨a3, c3, rfl, -, -, -⟩ := h3
  obtain ⟨a4, c4, rfl, -, -, -⟩ := h4
  have hb := hid (show Blk (w.alloc (.cells #[.slice a1 R.length c1, .slice a2 K.length c2, .slice a3 C.length c3, .slice a4 U.length c4] 29)) w.heap.size 29 #[.slice a1 R.length c1, .slice a2 K.length c2, .slice a3 C.length c3, .slice a4 U.length c4] from Blk.new w _ _)
  have hx := hid (show Ext w (w.alloc (.cells #[.slice a1 R.length c1, .slice a2 K.length c2, .slice a3 C.length c3, .slice a4 U.length c4] 29)) from (Ext.refl w).alloc _)
  go_enter Try.func34, Try.ntmps34
  obtain ⟨b0, b1, b2, b3⟩ := hb.out.at4
  cases B1
  · go_wp2_with fail
    go_ret
    exact ⟨rfl, hx.out⟩
  go_wp2_with fail
  clear b0 b1 b2 b3
  refine (E1.out _ hx.out).mono ?_
  rintro _ w1 ⟨rfl, x1⟩
  obtain ⟨b0, b1, b2, b3⟩ := (hb.out.ext x1).at4
  cases B2
  · go_wp2_with fail
    go_ret
    exact ⟨rfl, hx.out.trans x1⟩
  cases B3
  · go_wp2_with fail
    go_ret
    exact ⟨rfl, hx.out.trans x1⟩
  go_wp2_with fail
  clear b0 b1 b2 b3
  refine (E2.out _ (hx.out.trans x1)).mono ?_
  rintro _ w2 ⟨rfl, x2⟩
  go_wp2_with fail
  go_ret
  exact ⟨ret_bool (by simp), (hx.out.trans x1).trans x2⟩
end Go.Proofs.Ytnfnommiabalfaa
