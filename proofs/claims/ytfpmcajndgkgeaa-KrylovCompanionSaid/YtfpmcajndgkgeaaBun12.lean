/- What the texts Mx1, Mx2, CupQ, CupR, UsL, Mx3, Cm1, Pm1 show, in one text. -/
import Derived.Test.YtfpmcajndgkgeaaBun11
import Derived.Test.YtfpmcajndgkgeaaBun07
import Derived.Laws.ResultCell
import Derived.Test.YtfpmcajndgkgeaaBun13
import Derived.Test.YtfpmcajndgkgeaaBun14
import Derived.Test.YtfpmcajndgkgeaaBun04
import Derived.Test.YtfpmcajndgkgeaaBun08
import Derived.Maps.AppendAt
import Derived.Test.YtfpmcajndgkgeaaBun10
/- Package matrix: sides, vectors, rows, new matrices. -/
namespace Go.Proofs.Ytfpmcajndgkgeaa
open Go.RowKit Go.Maps

theorem results_cell_row_tmp {P : Program} {fn : Func} {p u : Tmp} {ty : TypeId} (h : fn.results = #[.cell p ty, .tmp u]) (tmps : Array Value) (w : World) (g : Nat) (t : TypeId) (cs : Array Value) (fr : Nat × Nat) (d : TypeDesc)
    (hp : tmps.getD p undef = .pointer (some ⟨g, 0, none⟩)) (hg : w.heap[g]? = some (.cells cs t fr))
    (hu : P.underlying ty = some d) (hd : (match d with | .struct _ | .array _ _ => true | _ => false) = true) (hi : (P.info? ty).map (·.size) = some cs.size) :
    (results fn tmps).run P w = .ok (.tuple #[.agg cs, tmps.getD u undef]) w := by
  have hp' : tmps[p]?.getD undef = .pointer (some ⟨g, 0, none⟩) := by simpa using hp
  simp [results, h, hp', asAddr, run_loadVar_row w g t ty cs fr d hg hu hd hi, Result.andThen]

/-- may it be a side? -/
def sideB (n : Int) : Bool := decide (1 ≤ n ∧ n ≤ 64)
theorem mxSide (n : Int) (w : World) : Calls Try.prog 120 #[.int .i64 n] w fun e w' => e = .returned (.bool (sideB n)) ∧ w = w' := by
  by_cases h : 1 ≤ n
  · by_cases h' : n ≤ 64
    all_goals
      go_enter Try.func120, Try.ntmps120
      go_wp2
      go_ret
      exact ⟨ret_bool (by simp [sideB]; omega), rfl⟩
  · go_enter Try.func120, Try.ntmps120
    go_wp2
    go_ret
    exact ⟨ret_bool (by simp [sideB]; omega), rfl⟩
theorem mxSides (r c : Int) (w : World) : Calls Try.prog 87 #[.int .i64 r, .int .i64 c] w fun e w' => e = .returned (.bool (sideB r && sideB c)) ∧ w = w' := by
  cases hB : sideB r
  · go_enter Try.func87, Try.ntmps87
    go_wp2_with (go_at_call 120; refine (mxSide _ _).mono ?_; rintro _ _ ⟨rfl, rfl⟩)
    go_ret
    exact ⟨rfl, rfl⟩
  · go_enter Try.func87, Try.ntmps87
    go_wp2_with (go_at_call 120; refine (mxSide _ _).mono ?_; rintro _ _ ⟨rfl, rfl⟩)
    go_ret
    exact ⟨ret_bool (by simp), rfl⟩
/-- a vector of so many numbers? -/
def vecB (p many : Int) (xs : List Int) : Bool := decide ((xs.length : Int) = many) && hasB p xs
theorem mxVector (p many : Int) (v : Value) (xs : List Int) (w : World) (h0 : 0 ≤ p) (h1 : p ≤ 18446744073709551615) (hv : Ints .u64 w v xs) (hx : U64s xs) :
    Calls Try.prog 110 #[.int .u64 p, v, .int .i64 many] w fun e w' => e = .returned (.bool (vecB p many xs)) ∧ w = w' := by
  have H := hid (has_any p v xs w h0 h1 hv hx)
  obtain ⟨B, hB⟩ : ∃ B, hasB p xs = B := ⟨_, rfl⟩
  unfold vecB
  rw [hB] at H ⊢
  obtain ⟨a, cap, rfl, k1, k2, k3⟩ := hv
  clear k3 hB hx
  by_cases e : (xs.length : Int) = many
  · have b : ((xs.length : Int) == many) = true := by simp [e]
    rw [decide_eq_true e]
    clear e
    go_enter Try.func110, Try.ntmps110
    go_wp2_with (go_at_call 40; refine H.out.mono ?_; rintro _ _ ⟨rfl, rfl⟩)
    go_ret
    exact ⟨ret_bool (by simp), rfl⟩
  · have b : ((xs.length : Int) == many) = false := by simp [e]
    rw [decide_eq_false e]
    clear e
    go_enter Try.func110, Try.ntmps110
    go_wp2_with fail
    go_ret
    exact ⟨rfl, rfl⟩
set_option maxHeartbeats 400000 in
theorem mxRow (r c : Int) (n i b off len cap : Nat) (w : World) (hc : c = n) (hn : 1 ≤ n ∧ n ≤ 64) (hi : i ≤ 64) (h1 : i * n + n ≤ cap) (h2 : cap ≤ 9223372036854775807) :
    Calls Try.prog 98 #[matV r c (.slice (some ⟨b, off, none⟩) len cap), .int .i64 i] w (Ret (.slice (some ⟨b, off + i * n, none⟩) n (cap - i * n)) w) := by
  subst hc
  obtain ⟨q, hq⟩ : ∃ q, i * n = q := ⟨_, rfl⟩
  have hqb : q ≤ 4096 := by rw [← hq]; exact Nat.mul_le_mul hi hn.2
  have hqi : (i : Int) * (n : Int) = (q : Int) := by rw [← hq]; push_cast; rfl
  have hqs : ((i : Int) + 1) * (n : Int) = ((q + n : Nat) : Int) := by rw [Int.add_mul, hqi]; push_cast; omega
  rw [hq] at h1 ⊢
  obtain ⟨m, hm⟩ : ∃ m, q + n = m := ⟨_, rfl⟩
  rw [hm] at hqs h1
  have e : m - q = n := by omega
  have hs := fun W => slice_run b off len cap q m (by omega) h1 (by omega) W
  have hs' := fun W => slice_run' b off len cap q m (by omega) h1 (by omega) W
  rw [e] at hs hs'
  clear hq e
  unfold matV
  go_enter Try.func98, Try.ntmps98
  go_wp2_with fail
  go_ret
  exact ⟨rfl, (by repeat (first | exact Ext.refl _ | assumption | refine Ext.drew ?_ | refine Ext.drewN ?_ _ | refine Ext.alloc ?_ _ | refine Ext.trans ?_ (by assumption)))⟩
set_option maxHeartbeats 400000 in
theorem mxNoughts (r c : Nat) (w : World) (hr : r ≤ 64) (hc : c ≤ 64) :
    Calls Try.prog 97 #[.int .i64 r, .int .i64 c] w fun e w' => ∃ g, e = .returned (matV r c (.slice (some ⟨g, 0, none⟩) (r * c) (r * c))) ∧ w.heap.size ≤ g ∧ WRow w' g 0 (List.replicate (r * c) 0) ∧ Ext w w' := by
  obtain ⟨q, hq⟩ : ∃ q, r * c = q := ⟨_, rfl⟩
  have hqi : (r : Int) * (c : Int) = (q : Int) := by rw [← hq]; push_cast; rfl
  have hqb : q ≤ 4096 := by rw [← hq]; exact Nat.mul_le_mul hr hc
  have hmk := make_ints (P := Try.prog) 23 22 .u64 8 (by omega) (by kernel_rfl) (by kernel_rfl) q q (Nat.le_refl _) (by omega)
  rw [hq]
  clear hq
  unfold matV
  go_enter Try.func97, Try.ntmps97
  go_wp2_with fail
  refine bodyPost_ret (results_cell_row rfl _ _ w.heap.size 25 #[.int .i64 (r : Int), .int .i64 (c : Int), .slice (some ⟨w.heap.size + 1, 0, none⟩) q q] (0, 0) _ rfl (Blk.ext (Blk.new w 25 _) ((Ext.refl _).alloc _)) Try.underlying25 rfl (by kernel_rfl)) rfl ?_
  exact ⟨w.heap.size + 1, rfl, by omega, WRow.made (by rw [alloc_size]), (by repeat (first | exact Ext.refl _ | assumption | refine Ext.drew ?_ | refine Ext.drewN ?_ _ | refine Ext.alloc ?_ _ | refine Ext.trans ?_ (by assumption)))⟩
end Go.Proofs.Ytfpmcajndgkgeaa
/- Package matrix: Right, Times. -/
namespace Go.Proofs.Ytfpmcajndgkgeaa
open Go.RowKit Go.Maps

theorem mxRight (p r c : Int) (v : Value) (xs : List Int) (w : World) (h0 : 0 ≤ p) (h1 : p ≤ 18446744073709551615) (hv : Ints .u64 w v xs) (hx : U64s xs) :
    Calls Try.prog 39 #[.int .u64 p, matV r c v] w (Ret (.bool (matB p r c xs)) w) := by
  have hh := fun (W : World) (hW : Ext w W) => has_any p v xs W h0 h1 (hv.ext hW) hx
  obtain ⟨R, hR⟩ : ∃ R, matB p r c xs = R := ⟨_, rfl⟩
  rw [hR]
  unfold matB at hR
  obtain ⟨B, hB⟩ : ∃ B, hasB p xs = B := ⟨_, rfl⟩
  rw [hB] at hR hh
  obtain ⟨a, cap, rfl, hc1, hc2, hc⟩ := hv
  have Hh := hid hh
  clear hB hh hc hx
  unfold matV
  by_cases g1 : 1 ≤ r ∧ r ≤ 64
  · rw [decide_eq_true g1, Bool.true_and] at hR
    have s1 : sideB r = true := decide_eq_true g1
    by_cases g2 : 1 ≤ c ∧ c ≤ 64
    · rw [decide_eq_true g2, Bool.true_and] at hR
      have s2 : sideB c = true := decide_eq_true g2
      have q1 : 0 ≤ r * c := Int.mul_nonneg (by omega) (by omega)
      have q2 : r * c ≤ 64 * 64 := Int.mul_le_mul g1.2 g2.2 (by omega) (by omega)
      obtain ⟨q, hq⟩ : ∃ q, r * c = q := ⟨_, rfl⟩
      rw [hq] at hR q1 q2
      clear g1 g2
      by_cases g5 : (xs.length : Int) = q
      · rw [decide_eq_true g5, Bool.true_and] at hR
        subst hR
        have b5 : ((xs.length : Int) == q) = true := by simp [g5]
        clear g5
        go_enter Try.func39, Try.ntmps39
        go_wp2_with (first
          | (go_at_call 87; refine (mxSides _ _ _).mono ?_; rintro _ _ ⟨rfl, rfl⟩)
          | (go_at_call 40; refine (Hh.out _ (by repeat (first | exact Ext.refl _ | assumption | refine Ext.drew ?_ | refine Ext.drewN ?_ _ | refine Ext.alloc ?_ _ | refine Ext.trans ?_ (by assumption)))).mono ?_; rintro _ _ ⟨rfl, rfl⟩))
        go_ret
        exact ⟨rfl, (by repeat (first | exact Ext.refl _ | assumption | refine Ext.drew ?_ | refine Ext.drewN ?_ _ | refine Ext.alloc ?_ _ | refine Ext.trans ?_ (by assumption)))⟩
      · rw [decide_eq_false g5, Bool.false_and] at hR
        subst hR
        have b5 : ((xs.length : Int) == q) = false := by simp [g5]
        clear g5
        go_enter Try.func39, Try.ntmps39
        go_wp2_with (go_at_call 87; refine (mxSides _ _ _).mono ?_; rintro _ _ ⟨rfl, rfl⟩)
        go_ret
        exact ⟨rfl, (by repeat (first | exact Ext.refl _ | assumption | refine Ext.drew ?_ | refine Ext.drewN ?_ _ | refine Ext.alloc ?_ _ | refine Ext.trans ?_ (by assumption)))⟩
    · rw [decide_eq_false g2, Bool.false_and] at hR
      subst hR
      have s2 : sideB c = false := decide_eq_false g2
      clear g1 g2
      go_enter Try.func39, Try.ntmps39
      go_wp2_with (go_at_call 87; refine (mxSides _ _ _).mono ?_; rintro _ _ ⟨rfl, rfl⟩)
      go_ret
      exact ⟨rfl, (by repeat (first | exact Ext.refl _ | assumption | refine Ext.drew ?_ | refine Ext.drewN ?_ _ | refine Ext.alloc ?_ _ | refine Ext.trans ?_ (by assumption)))⟩
  · rw [decide_eq_false g1, Bool.false_and] at hR
    subst hR
    have s1 : sideB r = false := decide_eq_false g1
    clear g1
    go_enter Try.func39, Try.ntmps39
    go_wp2_with (go_at_call 87; refine (mxSides _ _ _).mono ?_; rintro _ _ ⟨rfl, rfl⟩)
    go_ret
    exact ⟨rfl, (by repeat (first | exact Ext.refl _ | assumption | refine Ext.drew ?_ | refine Ext.drewN ?_ _ | refine Ext.alloc ?_ _ | refine Ext.trans ?_ (by assumption)))⟩

/-- a right matrix of m rows and n columns, all told over Nat -/
structure MatOk (p : Int) (m n : Nat) (xs : List Int) : Prop where
  hp : rightB p = true
  hx : Rng p xs
  hm : 1 ≤ m ∧ m ≤ 64
  hn : 1 ≤ n ∧ n ≤ 64
  hl : xs.length = m * n
theorem MatOk.u64 {p : Int} {m n : Nat} {xs : List Int} (h : MatOk p m n xs) : U64s xs := h.hx.u64 (rightB_true h.hp).2
theorem MatOk.b {p : Int} {m n : Nat} {xs : List Int} (h : MatOk p m n xs) : matB p m n xs = true := (matB_iff h.u64).2 ⟨h.hp, h.hx, m, n, rfl, rfl, h.hm.1, h.hm.2, h.hn.1, h.hn.2, h.hl⟩
theorem MatOk.of {p r c : Int} {xs : List Int} (hx : U64s xs) (h : matB p r c xs = true) : ∃ m n : Nat, r = m ∧ c = n ∧ MatOk p m n xs := by
  obtain ⟨h1, h2, m, n, rfl, rfl, h3, h4, h5, h6, h7⟩ := (matB_iff hx).1 h
  exact ⟨m, n, rfl, rfl, h1, h2, ⟨h3, h4⟩, ⟨h5, h6⟩, h7⟩
theorem MatOk.pos {p : Int} {m n : Nat} {xs : List Int} (h : MatOk p m n xs) : 0 < xs.length := by rw [h.hl]; exact Nat.mul_pos h.hm.1 h.hn.1
theorem MatOk.at_ {p : Int} {m n : Nat} {xs : List Int} (h : MatOk p m n xs) {i : Nat} (hi : i < m) : i * n + n ≤ xs.length := by
  rw [h.hl, ← Nat.succ_mul]; exact Nat.mul_le_mul_right _ hi
/-- row i -/
def piece (xs : List Int) (i n : Nat) : List Int := (xs.drop (i * n)).take n
theorem piece_len {xs : List Int} {i n : Nat} (h : i * n + n ≤ xs.length) : (piece xs i n).length = n := by simp [piece]; omega
theorem piece_get (xs : List Int) (i n k : Nat) (h : k < n) : (piece xs i n).getD k 0 = xs.getD (i * n + k) 0 := sub_get xs _ n k h
theorem piece_rng {p : Int} {xs : List Int} (h : Rng p xs) (i n : Nat) : Rng p (piece xs i n) := fun x hx => h x (List.mem_of_mem_drop (List.mem_of_mem_take hx))
theorem piece_tab {xs : List Int} {i n : Nat} (h : i * n + n ≤ xs.length) : piece xs i n = tab n fun k => xs.getD (i * n + k) 0 := tab_of (piece_len h) fun k hk => piece_get xs i n k hk
theorem dot_piece {p : Int} {xs ys : List Int} {i n : Nat} (h : i * n + n ≤ xs.length) (hy : ys.length = n) : dotZ (piece xs i n) ys % p = dv p n (fun k => xs.getD (i * n + k) 0) fun k => ys.getD k 0 := by
  rw [dv_dotZ (piece_len h) hy]
  exact dv_congr (fun k hk => piece_get xs i n k hk) fun _ _ => rfl
theorem vecB_yes {p : Int} {n : Nat} {ys : List Int} (hp : rightB p = true) (hy : Rng p ys) (hl : ys.length = n) : vecB p n ys = true := by
  unfold vecB
  rw [hl, hy.has hp, decide_eq_true rfl]; rfl
theorem vecB_true {p c : Int} {ys : List Int} (hu : U64s ys) (h : vecB p c ys = true) : rightB p = true ∧ Rng p ys ∧ (ys.length : Int) = c := by
  unfold vecB at h
  rw [Bool.and_eq_true, decide_eq_true_eq] at h
  obtain ⟨h5, h6⟩ := hasB_true h.2
  exact ⟨h5, fun x hx' => ⟨(hu x hx').1, h6 x hx'⟩, h.1⟩
/-- what a call answers: numbers, and that all is well -/
def RetV (l : List Int) (w : World) (e : Ending) (w' : World) : Prop := ∃ v, e = .returned (.tuple #[v, .int .i64 0]) ∧ Ints .u64 w' v l ∧ Ext w w'
/-- .. a matrix -/
def RetN (r c : Int) (l : List Int) (w : World) (e : Ending) (w' : World) : Prop := ∃ u, e = .returned (.tuple #[matV r c u, .int .i64 0]) ∧ Ints .u64 w' u l ∧ Ext w w'

theorem mxTimes_no (p r c : Int) (v u : Value) (xs ys : List Int) (w : World) (h0 : 0 ≤ p) (h1 : p ≤ 18446744073709551615) (hv : Ints .u64 w v xs) (hx : U64s xs) (hu : Ints .u64 w u ys) (hy : U64s ys) (h : (matB p r c xs && vecB p c ys) = false) :
    Calls Try.prog 52 #[.int .u64 p, matV r c v, u] w (Ret (.tuple #[.slice none 0 0, .int .i64 1]) w) := by
  have C1 := hid fun (W : World) (hW : Ext w W) => mxRight p r c v xs W h0 h1 (hv.ext hW) hx
  have C2 := hid fun (W : World) (hW : Ext w W) => mxVector p c u ys W h0 h1 (hu.ext hW) hy
  obtain ⟨a, cap, rfl, k1, k2, k3⟩ := hv
  clear k3 hu hx hy
  have hbox := hid (box3 w 25 (.int .i64 r) (.int .i64 c) (.slice a xs.length cap))
  unfold matV at C1
  unfold matV
  cases g1 : matB p r c xs
  · rw [g1] at C1
    clear h g1
    go_enter Try.func52, Try.ntmps52
    go_wp2_with (go_at_call 39; refine (C1.out _ (by repeat (first | exact Ext.refl _ | assumption | refine Ext.drew ?_ | refine Ext.drewN ?_ _ | refine Ext.alloc ?_ _ | refine Ext.trans ?_ (by assumption)))).mono ?_; rintro _ w1 ⟨rfl, x1⟩)
    go_ret2
    exact ⟨rfl, Ext.trans (by repeat (first | exact Ext.refl _ | assumption | refine Ext.drew ?_ | refine Ext.drewN ?_ _ | refine Ext.alloc ?_ _ | refine Ext.trans ?_ (by assumption))) x1⟩
  · rw [g1, Bool.true_and] at h
    rw [g1] at C1
    rw [h] at C2
    clear h g1
    go_enter Try.func52, Try.ntmps52
    go_wp2_with (first
      | (go_at_call 39; refine (C1.out _ (by repeat (first | exact Ext.refl _ | assumption | refine Ext.drew ?_ | refine Ext.drewN ?_ _ | refine Ext.alloc ?_ _ | refine Ext.trans ?_ (by assumption)))).mono ?_; rintro _ w1 ⟨rfl, x1⟩; obtain ⟨b0, b1, b2⟩ := hbox.out w1 x1)
      | (go_at_call 110; refine (C2.out _ (Ext.trans (by repeat (first | exact Ext.refl _ | assumption | refine Ext.drew ?_ | refine Ext.drewN ?_ _ | refine Ext.alloc ?_ _ | refine Ext.trans ?_ (by assumption))) x1)).mono ?_; rintro _ _ ⟨rfl, rfl⟩))
    go_ret2
    exact ⟨rfl, Ext.trans (by repeat (first | exact Ext.refl _ | assumption | refine Ext.drew ?_ | refine Ext.drewN ?_ _ | refine Ext.alloc ?_ _ | refine Ext.trans ?_ (by assumption))) x1⟩

set_option maxRecDepth 100000 in
set_option maxHeartbeats 1000000 in
theorem mxTimes_yes (p : Int) (m n : Nat) (v u : Value) (xs ys : List Int) (w : World) (ok : MatOk p m n xs) (hv : Ints .u64 w v xs) (hu : Ints .u64 w u ys) (hy : Rng p ys) (hyl : ys.length = n) :
    Calls Try.prog 52 #[.int .u64 p, matV m n v, u] w (RetV (timesL p m n xs ys) w) := by
  have hp2 := rightB_true ok.hp
  have C1 := hid fun (W : World) (hW : Ext w W) => mxRight p m n v xs W (by omega) (by omega) (hv.ext hW) ok.u64
  have C2 := hid fun (W : World) (hW : Ext w W) => mxVector p n u ys W (by omega) (by omega) (hu.ext hW) (hy.u64 hp2.2)
  rw [ok.b] at C1
  rw [vecB_yes ok.hp hy hyl] at C2
  have Ok := hid ok; have Hv := hid hv; have Hu := hid hu; have Hy := hid hy; have Hyl := hid hyl
  have hm := ok.hm; have hn := ok.hn
  obtain ⟨a, cap, rfl, k1, k2, k3⟩ := hv
  obtain ⟨b, off, rfl, hb, k4⟩ := k3 ok.pos
  have hcap := hid fun (i : Nat) (h : i < m) => Nat.le_trans (ok.at_ h) k1
  clear k3 k4 hu hy hyl ok
  obtain ⟨F, hF⟩ : ∃ F : Nat → Int, (fun i => dv p n (fun k => xs.getD (i * n + k) 0) fun k => ys.getD k 0) = F := ⟨_, rfl⟩
  have HF := hid (fun i => (congrFun hF i : dv p n (fun k => xs.getD (i * n + k) 0) (fun k => ys.getD k 0) = F i))
  unfold timesL
  rw [hF]
  clear hF
  have hmk := make_ints (P := Try.prog) 23 22 .u64 8 (by omega) (by kernel_rfl) (by kernel_rfl) m m (Nat.le_refl _) (by omega)
  have hbox := hid (box3 w 25 (.int .i64 (m : Int)) (.int .i64 (n : Int)) (.slice (some ⟨b, off, none⟩) xs.length cap))
  have hx0 : Ext w (w.alloc (.cells #[.int .i64 (m : Int), .int .i64 (n : Int), .slice (some ⟨b, off, none⟩) xs.length cap] 25)) := (Ext.refl w).alloc _
  have hrl := hid (List.length_replicate (n := m) (a := (0 : Int)))
  unfold matV at C1
  unfold matV
  go_enter Try.func52, Try.ntmps52
  go_wp2_with (first
    | (go_at_call 39; refine (C1.out _ (by repeat (first | exact Ext.refl _ | assumption | refine Ext.drew ?_ | refine Ext.drewN ?_ _ | refine Ext.alloc ?_ _ | refine Ext.trans ?_ (by assumption)))).mono ?_; rintro _ w1 ⟨rfl, x1⟩; obtain ⟨b0, b1, b2⟩ := hbox.out w1 x1)
    | (go_at_call 110; refine (C2.out _ (hx0.trans x1)).mono ?_; rintro _ _ ⟨rfl, rfl⟩))
  have hrow := hid (WRow.made (w := w1) (t := 22) (n := m) rfl)
  obtain ⟨g, hg⟩ : ∃ g, w1.heap.size = g := ⟨_, rfl⟩
  have hgw : w1.heap.size ≤ g := by omega
  obtain ⟨w2, hw2⟩ : ∃ w2, w1.alloc (.cells (madeCells #[Value.int .u64 0] m) 22) = w2 := ⟨_, rfl⟩
  have hx2 : Ext w1 w2 := hw2 ▸ (Ext.refl w1).alloc _
  rw [hg, hw2] at hrow
  rw [hg, hw2]
  clear hg hw2 hmk b0 b1 b2
  go_loopw [27] (fun i wr => ∃ (k : Nat) (l : List Int), i = .int .i64 k ∧ k ≤ m ∧ Hid (l.length = m) ∧ Hid (∀ j, l.getD j 0 = if j < k then F j else 0) ∧ Hid (WRow wr g 0 l) ∧ Ext w1 wr) (fun i _ => m - (intOf i).toNat)
  case atStart => exact ⟨0, _, rfl, Nat.zero_le _, hrl, hid (fun j => by rw [replicate_get]; simp), hrow, hx2⟩
  case round =>
    obtain ⟨k, l, rfl, hk, hln, hl2, Hrw, hxw⟩ := hrel
    clear hx2
    obtain ⟨b0, b1, b2⟩ := hbox.out wr (x1.trans hxw)
    by_cases hlt : k < m
    · have hck := hcap.out k hlt
      have hfk := HF.out k
      obtain ⟨z, hz⟩ : ∃ z, F k = z := ⟨_, rfl⟩
      rw [hz] at hfk
      have hdot := hid ((dot_piece (p := p) (Ok.out.at_ hlt) Hyl.out).trans hfk)
      have Hz := hid hz
      clear hz hfk
      go_wp2_with fail
      refine (mxRow (m : Int) (n : Int) n k b off xs.length cap wr rfl hn (by omega) hck k2).mono ?_
      rintro _ w3 ⟨rfl, x3⟩
      go_wp2_with fail
      refine (dot_as p z _ u (piece xs k n) ys w3 ((Hv.out.ext ((hx0.trans x1).trans (hxw.trans x3))).sub (k * n) n (Ok.out.at_ hlt) hn.1) (Hu.out.ext ((hx0.trans x1).trans (hxw.trans x3))) ((piece_rng Ok.out.hx k n).u64 hp2.2) (Hy.out.u64 hp2.2) (by rw [piece_len (Ok.out.at_ hlt), Hyl.out]) ((piece_rng Ok.out.hx k n).has Ok.out.hp) (Hy.out.has Ok.out.hp) hdot.out).mono ?_
      rintro _ w4 ⟨rfl, x4⟩
      have g2 := ((Hrw.out.ext (x3.trans x4)).2 k (by rw [hln.out]; omega)).1
      have f2 := ((Hrw.out.ext (x3.trans x4)).2 k (by rw [hln.out]; omega)).2
      rw [Nat.zero_add] at g2 f2
      go_wp2_with fail
      go_roundw
      case rel =>
        have hs := (Hrw.out.ext (x3.trans x4)).set_ (i := k) (by rw [hln.out]; omega) z
        rw [Nat.zero_add] at hs
        refine ⟨k + 1, l.set k z, by go_num, by omega, hid (by rw [List.length_set]; exact hln.out), hid (fun j => ?_), hid hs, (hxw.trans (x3.trans x4)).setCell (p := ⟨g, k, none⟩) hgw _⟩
        rw [set_get l k j z (by rw [hln.out]; omega), hl2.out]
        by_cases e : k = j
        · subst e
          rw [if_pos rfl, if_pos (by omega), Hz.out]
        · rw [if_neg e]
          by_cases e2 : j < k
          · rw [if_pos e2, if_pos (by omega)]
          · rw [if_neg e2, if_neg (by omega)]
      case measure => simp [intOf]; omega
    · obtain rfl : m = k := by omega
      go_wp2_with fail
      go_ret2
      have e : l = tab m F := tab_of hln.out fun j hj => by rw [hl2.out, if_pos hj]
      exact ⟨_, rfl, e ▸ Hrw.out.ints' hln.out (Nat.le_refl _) (by omega), hx0.trans (x1.trans hxw)⟩
end Go.Proofs.Ytfpmcajndgkgeaa
/- A right matrix taken apart over a field: its rank, its profile, its determinant, as the laws of layer 7 ask for them (in plain Lean; nothing of a program). -/
namespace Go.Proofs.Ytfpmcajndgkgeaa
variable {p : Int} {m n : Nat} {xs : List Int}

/-- a matrix's row -/
def rowOf (n : Nat) (xs : List Int) (i : Nat) : List Int := tab n fun j => xs.getD (i * n + j) 0
/-- a matrix taken apart -/
noncomputable def takeL (p : Int) (m n : Nat) (xs : List Int) : ElE := (takeE p n (rowOf n xs) m).getD .nil
theorem rowOf_rng (hp : 2 ≤ p) (hx : Rng p xs) (i : Nat) : (rowOf n xs i).length = n ∧ Rng p (rowOf n xs i) := ⟨tab_len _ _, tab_rng fun _ _ => hx.getD hp _⟩
theorem takeL_some (hp : 2 ≤ p) (hf : Fld p) (hx : Rng p xs) : takeE p n (rowOf n xs) m = some (takeL p m n xs) := by
  obtain ⟨st, h⟩ := takeE_some hp hf m fun i _ => rowOf_rng (n := n) hp hx i
  unfold takeL
  rw [h]; rfl
theorem takeL_ok (hp : 2 ≤ p) (hf : Fld p) (hx : Rng p xs) : ElOk p n (rowOf n xs) m (takeL p m n xs) := takeE_ok hp m (fun i _ => rowOf_rng hp hx i) (takeL_some hp hf hx)
theorem lf_row {i j : Nat} (hj : j < n) : lf (rowOf n xs i) j = atF n xs i j := tab_get _ hj
/-- the rank of the turned one -/
theorem rank_turn (hp : 2 ≤ p) (hf : Fld p) (hx : Rng p xs) : (takeL p n m (turnL m n xs)).U.length = (takeL p m n xs).U.length := by
  have hi := hf.has hp
  have B := (takeL_ok (m := m) (n := n) hp hf hx).bas hi
  have B' := (takeL_ok (m := n) (n := m) hp hf (turnL_rng hp hx m n)).bas hi
  have e1 : ∀ i j, i < m → j < n → lf (rowOf m (turnL m n xs) j) i = lf (rowOf n xs i) j := fun i j hi hj => by
    rw [lf_row hi, lf_row hj]
    show (turnL m n xs).getD (j * m + i) 0 = xs.getD (i * n + j) 0
    rw [turnL, grid_get _ hj hi]
  refine Nat.le_antisymm (Bas.turn_le hi B (u' := fun k => lf ((takeL p n m (turnL m n xs)).U.getD k [])) ⟨B'.ind, fun j hj => (B'.gen j hj).congr fun i hi => by rw [e1 i j hi hj], fun k hk => ?_⟩) (Bas.turn_le hi B' (u' := fun k => lf ((takeL p m n xs).U.getD k [])) ⟨B.ind, fun i hi => (B.gen i hi).congr fun j hj => by rw [e1 i j hi hj], fun k hk => ?_⟩)
  · exact (B'.own k hk).trans fun j hj => (Comb.one (fun j i => lf (rowOf n xs i) j) hj).congr fun i hi => by rw [e1 i j hi hj]
  · exact (B.own k hk).trans fun i hi => (Comb.one (fun i j => lf (rowOf m (turnL m n xs) j) i) hi).congr fun j hj => by rw [e1 i j hi hj]
theorem rowsF_det (n : Nat) (xs : List Int) : detN n (rowsF n (rowOf n xs)) = detF n (atF n xs) :=
  detF_congr n (A := fun i => lf (rowOf n xs i)) fun _ _ _ hj => lf_row hj
/-- the turned one's determinant -/
theorem det_turned (hp : 2 ≤ p) (hf : Fld p) (hx : Rng p xs) : detF n (atF n (turnL n n xs)) % p = detF n (atF n xs) % p := by
  have ok := takeL_ok (m := n) (n := n) hp hf hx
  have h1 := ok.det (hf.has hp)
  have h2 := ok.det_turn (hf.has hp)
  rw [rowsF_det] at h1
  rw [h1, ← h2]
  refine congrArg (· % p) (detF_congr n fun j i hj hi => ?_)
  rw [rowsF_get hi, lf_row hj]
  show (turnL n n xs).getD (j * n + i) 0 = xs.getD (i * n + j) 0
  rw [turnL, grid_get _ hj hi]
theorem mz_prod (hp : HasInv p) {a b : Int} (ha : a % p ≠ 0) (hb : b % p ≠ 0) : a * b % p ≠ 0 := fun h => ha (mz_cancel hp hb h)
theorem prN_ne (hp : HasInv p) {d : Nat → Int} : ∀ n, (∀ k, k < n → d k % p ≠ 0) → prN n d % p ≠ 0
  | 0, _ => by show (1 : Int) % p ≠ 0; rw [hp.one]; omega
  | n + 1, h => mz_prod hp (prN_ne hp n fun k hk => h k (by omega)) (h n (by omega))
/-- the determinant isn't 0 just if all rows count -/
theorem det_rank (hp : 2 ≤ p) (hf : Fld p) (hx : Rng p xs) : detF n (atF n xs) % p = 0 ↔ (takeL p n n xs).U.length ≠ n := by
  have ok := takeL_ok (m := n) (n := n) hp hf hx
  have hi := hf.has hp
  have h1 := ok.det hi
  rw [rowsF_det] at h1
  rw [h1]
  unfold detE
  have hle := ok.le
  by_cases h : (takeL p n n xs).U.length < n
  · rw [if_pos h]
    exact ⟨fun _ => by omega, fun _ => by simp⟩
  · rw [if_neg h]
    refine ⟨fun h0 => absurd h0 (mz_prod hi (prN_ne hi n fun k hk => ?_) ?_), fun h0 => absurd (show _ = n by omega) h0⟩
    · exact ok.ech.piv k (by omega)
    · rcases sgn_or (colsZ (takeL p n n xs)) with e | e
      · rw [e, hi.one]; omega
      · rw [e]
        intro h2
        have h3 := mz_neg h2
        rw [show -(-1 : Int) = 1 by rfl, hi.one] at h3
        omega
/-- the first rows' profile -/
theorem profile_prefix (hp : 2 ≤ p) (hf : Fld p) (hx : Rng p xs) {k : Nat} (hk : k ≤ m) : ∃ t, (takeL p m n xs).rows = (takeL p k n (xs.take (k * n))).rows ++ t ∧ ∀ x ∈ t, k ≤ x := by
  have h1 := takeL_some (m := k) (n := n) hp hf (hx.take (k * n))
  have h2 := takeL_some (m := m) (n := n) hp hf hx
  have e : takeE p n (rowOf n (xs.take (k * n))) k = takeE p n (rowOf n xs) k := takeE_congr k fun i hi => tab_congr fun j hj => by
    have := at_lt hi hj
    simp only [List.getD, List.getElem?_take, if_pos this]
  rw [e] at h1
  rw [show m = k + (m - k) by omega] at h2 ⊢
  exact takeE_prefix h1 (m - k) h2
end Go.Proofs.Ytfpmcajndgkgeaa
/- A right matrix taken apart makes itself again; the minor of the rows and columns that count (in plain Lean; nothing of a program). -/
namespace Go.Proofs.Ytfpmcajndgkgeaa
variable {p : Int} {m n : Nat} {xs : List Int}

/-- a row of so many numbers, 0 behind -/
def padL (r : Nat) (l : List Int) : List Int := l ++ List.replicate (r - l.length) 0
theorem padL_len {r : Nat} {l : List Int} (h : l.length ≤ r) : (padL r l).length = r := by simp [padL]; omega
theorem padL_get (r : Nat) (l : List Int) (k : Nat) : (padL r l).getD k 0 = l.getD k 0 := pad_get _ _ _
/-- what parts make -/
def makeL (p : Int) (C U : List (List Int)) (m n : Nat) : List Int := grid m n fun i j => (sm U.length fun t => (C.getD i []).getD t 0 * (U.getD t []).getD j 0) % p
theorem makeL_len (C U : List (List Int)) : (makeL p C U m n).length = m * n := grid_len _ _ _
theorem map_getD {C : List (List Int)} {f : List Int → List Int} {i : Nat} (h : i < C.length) : (C.map f).getD i [] = f (C.getD i []) := by
  simp [List.getD, List.getElem?_map, List.getElem?_eq_getElem h]
theorem make_take (hp : 2 ≤ p) (hf : Fld p) (hx : Rng p xs) (hl : xs.length = m * n) (hn : 1 ≤ n) (r : Nat) : makeL p ((takeL p m n xs).C.map (padL r)) (takeL p m n xs).U m n = xs := by
  have h := takeL_ok (m := m) (n := n) hp hf hx
  symm
  refine tab_of hl fun t ht => ?_
  have hi : t / n < m := (Nat.div_lt_iff_lt_mul (by omega)).2 ht
  have hj : t % n < n := Nat.mod_lt _ (by omega)
  have e : t / n * n + t % n = t := by rw [Nat.mul_comm]; exact Nat.div_add_mod t n
  have h1 := h.full hi hj
  have h2 : (rowOf n xs (t / n)).getD (t % n) 0 = xs.getD t 0 := by rw [← e]; simp only [e]; exact (tab_get _ hj).trans (by rw [e])
  rw [h2, mod_small (hx.getD hp t).1 (hx.getD hp t).2] at h1
  rw [h1]
  congr 2
  funext k
  rw [map_getD (by rw [h.lc]; exact hi), padL_get]

/-- the columns that count, rising -/
def risL (n : Nat) (cols : List Nat) : List Nat := (List.range n).filter fun l => decide (l ∈ cols)
theorem risL_mem {cols : List Nat} {l : Nat} : l ∈ risL n cols ↔ l < n ∧ l ∈ cols := by simp [risL]
theorem risL_len {cols : List Nat} (hn : cols.Nodup) (hb : ∀ c ∈ cols, c < n) : (risL n cols).length = cols.length := by
  have h1 := offE_len hn hb
  have h2 : (risL n cols).length + (offE n cols).length = n := by
    unfold risL offE
    rw [← List.countP_eq_length_filter, ← List.countP_eq_length_filter]
    have := List.length_eq_countP_add_countP (fun l => decide (l ∈ cols)) (l := List.range n)
    rw [List.length_range] at this
    simp only [decide_not] at this ⊢
    simpa using this.symm
  omega
/-- the minor of the rows and columns that count -/
noncomputable def minorL (p : Int) (m n : Nat) (xs : List Int) : List Int :=
  grid (takeL p m n xs).U.length (takeL p m n xs).U.length fun i l => xs.getD ((takeL p m n xs).rows.getD i 0 * n + (risL n (takeL p m n xs).cols).getD l 0) 0
theorem minorL_len : (minorL p m n xs).length = (takeL p m n xs).U.length * (takeL p m n xs).U.length := grid_len _ _ _
theorem minorL_rng (hp : 2 ≤ p) (hx : Rng p xs) : Rng p (minorL p m n xs) := tab_rng fun _ _ => hx.getD hp _
theorem minor_det (hp : 2 ≤ p) (hf : Fld p) (hx : Rng p xs) : detF (takeL p m n xs).U.length (atF (takeL p m n xs).U.length (minorL p m n xs)) % p ≠ 0 := by
  have h := takeL_ok (m := m) (n := n) hp hf hx
  obtain ⟨r, hr⟩ : ∃ r, (takeL p m n xs).U.length = r := ⟨_, rfl⟩
  have hy := minorL_rng (m := m) (n := n) hp hx
  have ho := takeL_ok (m := r) (n := r) hp hf hy
  have hi := hf.has hp
  have hcols : (risL n (takeL p m n xs).cols).length = r := by
    rw [risL_len h.cols_nodup fun c hc => h.cols_lt hc, h.lk, hr]
  rw [hr]
  intro h0
  apply (det_rank hp hf hy).1 h0
  apply Nat.le_antisymm ho.le
  have hm := h.minor hi (fun l => (risL n (takeL p m n xs).cols).getD l 0) (q := r) fun k hk => by
    have hk2 : k < (takeL p m n xs).cols.length := by rw [h.lk]; exact hk
    have hmem : (takeL p m n xs).cols.getD k 0 ∈ risL n (takeL p m n xs).cols := risL_mem.2 ⟨(h.row k hk).2.2.1, by simp [List.getD, List.getElem?_eq_getElem hk2]⟩
    obtain ⟨l, hl, e⟩ := List.getElem_of_mem hmem
    exact ⟨l, by rw [← hcols]; exact hl, by simp only [List.getD, List.getElem?_eq_getElem hl, Option.getD_some]; exact e⟩
  rw [hr] at hm
  refine hm.le hi fun k hk => ((ho.bas hi).gen k hk).congr fun j hj => ?_
  congr 1
  have e1 : lf (rowOf r (minorL p m n xs) k) j = (minorL p m n xs).getD (k * r + j) 0 := tab_get _ hj
  have e2 : (minorL p m n xs).getD (k * r + j) 0 = xs.getD ((takeL p m n xs).rows.getD k 0 * n + (risL n (takeL p m n xs).cols).getD j 0) 0 := by
    unfold minorL
    rw [hr]
    exact grid_get _ hk hj
  have hc : (risL n (takeL p m n xs).cols).getD j 0 < n := by
    have hj2 : j < (risL n (takeL p m n xs).cols).length := by rw [hcols]; exact hj
    have : (risL n (takeL p m n xs).cols).getD j 0 ∈ risL n (takeL p m n xs).cols := by simp [List.getD, List.getElem?_eq_getElem hj2]
    exact (risL_mem.1 this).1
  rw [e1, e2]
  exact tab_get _ hc
end Go.Proofs.Ytfpmcajndgkgeaa
/- Rows of rows of numbers; a matrix's parts in memory. -/
namespace Go.Proofs.Ytfpmcajndgkgeaa
open Go.RowKit Go.Maps

/-- in the world w the slice v reads as rows of numbers -/
def UsL (w : World) (v : Value) (ls : List (List Int)) : Prop :=
  ∃ (a : Option Addr) (cap : Nat), v = .slice a ls.length cap ∧ ls.length ≤ cap ∧ cap ≤ 9223372036854775807 ∧
    (0 < ls.length → ∃ b off, a = some ⟨b, off, none⟩ ∧ b < w.heap.size ∧ ∀ j, j < ls.length → ∃ u, w.cell? ⟨b, off + j, none⟩ = some u ∧ Ints .u64 w u (ls.getD j []))
theorem UsL.ext {w w' : World} {v : Value} {ls : List (List Int)} (h : UsL w v ls) (he : Ext w w') : UsL w' v ls := by
  obtain ⟨a, cap, h1, h2, h3, h4⟩ := h
  refine ⟨a, cap, h1, h2, h3, fun hp => ?_⟩
  obtain ⟨b, off, ha, hb, hc⟩ := h4 hp
  refine ⟨b, off, ha, Nat.lt_of_lt_of_le hb he.size, fun j hj => ?_⟩
  obtain ⟨u, c1, c2⟩ := hc j hj
  exact ⟨u, (he.cells _ _ hb).trans c1, c2.ext he⟩
theorem UsL.nil {w : World} : UsL w (.slice none 0 0) [] := ⟨none, 0, rfl, by simp, by omega, by simp⟩
theorem Blk.at4 {w : World} {g : Nat} {t : TypeId} {a b c d : Value} (h : Blk w g t #[a, b, c, d]) : w.cell? ⟨g, 0, none⟩ = some a ∧ w.cell? ⟨g, 1, none⟩ = some b ∧ w.cell? ⟨g, 2, none⟩ = some c ∧ w.cell? ⟨g, 3, none⟩ = some d :=
  ⟨h.cell 0, h.cell 1, h.cell 2, h.cell 3⟩
/-- a matrix's parts, and no error -/
def RetCup (rows cols : List Int) (C U : List (List Int)) (w : World) (e : Ending) (w' : World) : Prop :=
  ∃ rv cv Cv Uv, e = .returned (.tuple #[.agg #[rv, cv, Cv, Uv], .int .i64 0]) ∧ Ints .i64 w' rv rows ∧ Ints .i64 w' cv cols ∧ UsL w' Cv C ∧ UsL w' Uv U ∧ Ext w w'
/-- parts that may make a matrix of m rows and n columns -/
structure CupOk (p : Int) (m n : Nat) (C U : List (List Int)) : Prop where
  hp : rightB p = true
  hm : 1 ≤ m ∧ m ≤ 64
  hn : 1 ≤ n ∧ n ≤ 64
  lc : C.length = m
  c : ∀ l ∈ C, l.length = U.length ∧ Rng p l
  u : ∀ l ∈ U, l.length = n ∧ Rng p l
  hu : U.length ≤ 64
/-- a matrix's profile, as whole numbers -/
noncomputable def profZ (p : Int) (m n : Nat) (xs : List Int) : List Int := (takeL p m n xs).rows.map fun k : Nat => (k : Int)
theorem profZ_len {p : Int} {m n : Nat} {xs : List Int} (ok : MatOk p m n xs) (hf : Fld p) : (profZ p m n xs).length = (takeL p m n xs).U.length := by
  have := (takeL_ok (m := m) (n := n) (rightB_true ok.hp).1 hf ok.hx).lr
  simp [profZ, this]
theorem colsZ_len {p : Int} {m n : Nat} {xs : List Int} (ok : MatOk p m n xs) (hf : Fld p) : (colsZ (takeL p m n xs)).length = (takeL p m n xs).U.length := by
  have := (takeL_ok (m := m) (n := n) (rightB_true ok.hp).1 hf ok.hx).lk
  simp [colsZ, this]
theorem Rng.pad {p : Int} {l : List Int} (h : Rng p l) (hp : 2 ≤ p) (r : Nat) : Rng p (padL r l) := rng_app h fun x hx => by
  rw [List.eq_of_mem_replicate hx]; omega
theorem take_parts {p : Int} {m n : Nat} {xs : List Int} (ok : MatOk p m n xs) (hf : Fld p) : CupOk p m n ((takeL p m n xs).C.map (padL (takeL p m n xs).U.length)) (takeL p m n xs).U := by
  have hp := (rightB_true ok.hp).1
  have h := takeL_ok (m := m) (n := n) hp hf ok.hx
  refine ⟨ok.hp, ok.hm, ok.hn, by rw [List.length_map, h.lc], fun l hl => ?_, fun l hl => ?_, Nat.le_trans h.le ok.hm.2⟩
  · obtain ⟨k, hk, rfl⟩ := List.mem_map.1 hl
    obtain ⟨i, hi, rfl⟩ := List.getElem_of_mem hk
    have := h.cl i (by rw [← h.lc]; exact hi)
    rw [List.getD, List.getElem?_eq_getElem hi] at this
    exact ⟨padL_len this.1, this.2.pad hp _⟩
  · obtain ⟨i, hi, rfl⟩ := List.getElem_of_mem hl
    have := h.row i hi
    rw [List.getD, List.getElem?_eq_getElem hi] at this
    exact ⟨this.1, this.2.1⟩
end Go.Proofs.Ytfpmcajndgkgeaa
/- Package matrix: matrices under way; Turn, Left. -/
namespace Go.Proofs.Ytfpmcajndgkgeaa
open Go.RowKit Go.Maps

/-- a matrix under way: its box, and its cells -/
structure Und (w0 w : World) (h g Q : Nat) (r c : Int) (l : List Int) : Prop where
  box : Blk w h 25 #[.int .i64 r, .int .i64 c, .slice (some ⟨g, 0, none⟩) Q Q]
  row : WRow w g 0 l
  len : l.length = Q
  ext : Ext w0 w
  hg : w0.heap.size ≤ g
  hh : w0.heap.size ≤ h
  ne : g ≠ h
theorem Und.ext' {w0 w w' : World} {h g Q : Nat} {r c : Int} {l : List Int} (b : Und w0 w h g Q r c l) (y : Ext w w') : Und w0 w' h g Q r c l :=
  ⟨b.box.ext y, b.row.ext y, b.len, b.ext.trans y, b.hg, b.hh, b.ne⟩
theorem Und.put {w0 w : World} {h g Q : Nat} {r c : Int} {l : List Int} (b : Und w0 w h g Q r c l) {i : Nat} (hi : i < Q) (x : Int) : Und w0 (w.setCell ⟨g, i, none⟩ (.int .u64 x)) h g Q r c (l.set i x) := by
  have hs := b.row.set_ (i := i) (by rw [b.len]; exact hi) x
  rw [Nat.zero_add] at hs
  exact ⟨b.box.grown (setCell_grown _ _ _) (fun e => b.ne (by injection e)), hs, by rw [List.length_set]; exact b.len, b.ext.setCell (p := ⟨g, i, none⟩) b.hg _, b.hg, b.hh, b.ne⟩
theorem Und.at_ {w0 w : World} {h g Q : Nat} {r c : Int} {l : List Int} (b : Und w0 w h g Q r c l) {i : Nat} (hi : i < Q) : w.cell? ⟨g, i, none⟩ = some (.int .u64 (l.getD i 0)) ∧ w.frozen? ⟨g, i, none⟩ = false := by
  have := b.row.2 i (by rw [b.len]; exact hi)
  rw [Nat.zero_add] at this
  exact this
theorem Und.start {w0 w : World} {g Q : Nat} {r c : Int} {l : List Int} (hg : w0.heap.size ≤ g) (hrow : WRow w g 0 l) (hl : l.length = Q) (x : Ext w0 w) :
    Und w0 (w.alloc (.cells #[.int .i64 r, .int .i64 c, .slice (some ⟨g, 0, none⟩) Q Q] 25)) w.heap.size g Q r c l :=
  ⟨Blk.new _ _ _, hrow.ext ((Ext.refl _).alloc _), hl, x.alloc _, hg, x.size, Nat.ne_of_lt hrow.1⟩
/-- the answer's box is told a matrix -/
theorem fin0 {w wv : World} {g : Nat} {x y z : Value} (hR : Blk w g 25 #[x, y, z]) (hv : Ext wv w) (hg : wv.heap.size ≤ g) (a b c : Value) :
    Blk (((w.setCell ⟨g, 0, none⟩ a).setCell ⟨g, 1, none⟩ b).setCell ⟨g, 2, none⟩ c) g 25 #[a, b, c] ∧ Ext wv (((w.setCell ⟨g, 0, none⟩ a).setCell ⟨g, 1, none⟩ b).setCell ⟨g, 2, none⟩ c) :=
  ⟨((hR.set_ 0 a).set_ 1 b).set_ 2 c, ((hv.setCell (p := ⟨g, 0, none⟩) hg a).setCell (p := ⟨g, 1, none⟩) hg b).setCell (p := ⟨g, 2, none⟩) hg c⟩
theorem Und.fin {w0 w wv : World} {h g Q G : Nat} {r c : Int} {l : List Int} (b : Und w0 w h g Q r c l) {x y z : Value} (hR : Blk w G 25 #[x, y, z]) (hG : G < w0.heap.size) (hv : Ext wv w) (hgv : wv.heap.size ≤ G) (hQ : Q ≤ 9223372036854775807) :
    Blk (((w.setCell ⟨G, 0, none⟩ (.int .i64 r)).setCell ⟨G, 1, none⟩ (.int .i64 c)).setCell ⟨G, 2, none⟩ (.slice (some ⟨g, 0, none⟩) Q Q)) G 25 #[.int .i64 r, .int .i64 c, .slice (some ⟨g, 0, none⟩) Q Q] ∧
    Ints .u64 (((w.setCell ⟨G, 0, none⟩ (.int .i64 r)).setCell ⟨G, 1, none⟩ (.int .i64 c)).setCell ⟨G, 2, none⟩ (.slice (some ⟨g, 0, none⟩) Q Q)) (.slice (some ⟨g, 0, none⟩) Q Q) l ∧
    Ext wv (((w.setCell ⟨G, 0, none⟩ (.int .i64 r)).setCell ⟨G, 1, none⟩ (.int .i64 c)).setCell ⟨G, 2, none⟩ (.slice (some ⟨g, 0, none⟩) Q Q)) := by
  have hne : g ≠ G := by have := b.hg; omega
  refine ⟨(fin0 hR hv hgv _ _ _).1, ?_, (fin0 hR hv hgv _ _ _).2⟩
  exact (((b.row.set_other hne).set_other hne).set_other hne).ints' b.len (Nat.le_refl _) hQ
theorem boxes2 (w : World) (t t' : TypeId) (A B : Array Value) :
    Blk ((w.alloc (.cells A t)).alloc (.cells B t')) w.heap.size t A ∧ Blk ((w.alloc (.cells A t)).alloc (.cells B t')) (w.heap.size + 1) t' B ∧ Ext w ((w.alloc (.cells A t)).alloc (.cells B t')) :=
  ⟨(Blk.new w t A).ext ((Ext.refl _).alloc _), Blk.at_ (by rw [alloc_size]), ((Ext.refl w).alloc _).alloc _⟩
theorem at_inj {c i k i' k' : Nat} (hk : k < c) (hk' : k' < c) (h : i * c + k = i' * c + k') : i = i' ∧ k = k' := by
  constructor
  · rw [← at_div hk (i := i), h, at_div hk']
  · rw [← at_mod hk (i := i), h, at_mod hk']
theorem put_at {l : List Int} {c j i a b : Nat} (x : Int) (hi : i < c) (hb : b < c) (hl : j * c + i < l.length) : (l.set (j * c + i) x).getD (a * c + b) 0 = if a = j ∧ b = i then x else l.getD (a * c + b) 0 := by
  rw [set_get l _ _ x hl]
  by_cases e : a = j ∧ b = i
  · rw [if_pos e, if_pos (by rw [e.1, e.2])]
  · rw [if_neg e, if_neg (fun h => e (by obtain ⟨h1, h2⟩ := at_inj hi hb h; exact ⟨h1.symm, h2.symm⟩))]

/-- what a call answers where something isn't right, instead of a matrix -/
def noMat : Value := .tuple #[.agg #[.int .i64 0, .int .i64 0, .slice none 0 0], .int .i64 1]
set_option maxHeartbeats 400000 in
theorem mxTurn_no (p r c : Int) (v : Value) (xs : List Int) (w : World) (h0 : 0 ≤ p) (h1 : p ≤ 18446744073709551615) (hv : Ints .u64 w v xs) (hx : U64s xs) (h : matB p r c xs = false) :
    Calls Try.prog 74 #[.int .u64 p, matV r c v] w (Ret noMat w) := by
  have C1 := hid fun (W : World) (hW : Ext w W) => mxRight p r c v xs W h0 h1 (hv.ext hW) hx
  rw [h] at C1
  unfold matV at C1
  unfold matV noMat
  have hb2 := hid (boxes2 w 25 25 #[.int .i64 r, .int .i64 c, v] #[.int .i64 0, .int .i64 0, .slice none 0 0])
  obtain ⟨a, cap, rfl, k1, k2, k3⟩ := hv
  clear k3 hx h
  go_enter Try.func74, Try.ntmps74
  go_wp2_with (go_at_call 39; refine (C1.out _ (by repeat (first | exact Ext.refl _ | assumption | refine Ext.drew ?_ | refine Ext.drewN ?_ _ | refine Ext.alloc ?_ _ | refine Ext.trans ?_ (by assumption)))).mono ?_; rintro _ w1 ⟨rfl, x1⟩; have HR := hid (hb2.out.2.1.ext x1); have HE := hid (hb2.out.2.2.trans x1); obtain ⟨b0, b1, b2⟩ := HR.out.at3; have f0 := HR.out.frozen 0; have f1 := HR.out.frozen 1; have f2 := HR.out.frozen 2)
  have F := fin0 HR.out HE.out (by omega) (.int .i64 0) (.int .i64 0) (.slice none 0 0)
  refine bodyPost_ret (results_cell_row_tmp rfl _ _ (w.heap.size + 1) 25 _ (0, 0) _ rfl F.1 Try.underlying25 rfl (by kernel_rfl)) rfl ?_
  exact ⟨rfl, F.2⟩

set_option maxRecDepth 100000 in
set_option maxHeartbeats 1000000 in
theorem mxTurn_yes (p : Int) (m n : Nat) (v : Value) (xs : List Int) (w : World) (ok : MatOk p m n xs) (hv : Ints .u64 w v xs) :
    Calls Try.prog 74 #[.int .u64 p, matV m n v] w (RetN n m (turnL m n xs) w) := by
  have hp2 := rightB_true ok.hp
  have C1 := hid fun (W : World) (hW : Ext w W) => mxRight p m n v xs W (by omega) (by omega) (hv.ext hW) ok.u64
  rw [ok.b] at C1
  have Ok := hid ok
  have hm := ok.hm; have hn := ok.hn
  obtain ⟨a, cap, rfl, k1, k2, k3⟩ := hv
  obtain ⟨b, off, rfl, hb, k4⟩ := k3 ok.pos
  have K := hid k4
  have hcap := hid fun (i : Nat) (h : i < m) => Nat.le_trans (ok.at_ h) k1
  clear k3 k4 ok
  obtain ⟨Q, hQ⟩ : ∃ Q, n * m = Q := ⟨_, rfl⟩
  have hQb : Q ≤ 4096 := by rw [← hQ]; exact Nat.mul_le_mul hn.2 hm.2
  have HN := hid fun W : World => mxNoughts n m W hn.2 hm.2
  rw [hQ] at HN
  have HQ := hid hQ
  clear hQ
  have hb2 := hid (boxes2 w 25 25 #[.int .i64 (m : Int), .int .i64 (n : Int), .slice (some ⟨b, off, none⟩) xs.length cap] #[.int .i64 0, .int .i64 0, .slice none 0 0])
  unfold matV at C1
  unfold matV
  go_enter Try.func74, Try.ntmps74
  go_wp2_with (go_at_call 39; refine (C1.out _ (by repeat (first | exact Ext.refl _ | assumption | refine Ext.drew ?_ | refine Ext.drewN ?_ _ | refine Ext.alloc ?_ _ | refine Ext.trans ?_ (by assumption)))).mono ?_; rintro _ w1 ⟨rfl, x1⟩; have HA := hid (hb2.out.1.ext x1); have HR := hid (hb2.out.2.1.ext x1); have HE := hid (hb2.out.2.2.trans x1); obtain ⟨b0, b1, b2⟩ := HA.out.at3)
  have hR1 := HR.out.lt
  refine (HN.out _).mono ?_
  rintro _ w2 ⟨g, rfl, hg, hrow, x2⟩
  have HU := hid (Und.start (Q := Q) (r := (n : Int)) (c := (m : Int)) hg hrow List.length_replicate x2)
  unfold matV
  have b3 := (HA.out.ext (x2.alloc (.cells #[.int .i64 (n : Int), .int .i64 (m : Int), .slice (some ⟨g, 0, none⟩) Q Q] 25))).at3
  clear b0 b1 b2
  obtain ⟨b0, b1, b2⟩ := b3
  go_wp2_with fail
  obtain ⟨h, hh⟩ : ∃ h, w2.heap.size = h := ⟨_, rfl⟩
  obtain ⟨w3, hw3⟩ : ∃ w3, w2.alloc (.cells #[.int .i64 (n : Int), .int .i64 (m : Int), .slice (some ⟨g, 0, none⟩) Q Q] 25) = w3 := ⟨_, rfl⟩
  rw [hw3, hh] at HU
  rw [hw3, hh]
  clear hh hw3 b0 b1 b2 hrow x2 hg
  obtain ⟨gR, hgR⟩ : ∃ gR, w.heap.size + 1 = gR := ⟨_, rfl⟩
  have hgw : w.heap.size ≤ gR := by omega
  rw [hgR] at HR hR1
  rw [hgR]
  obtain ⟨gA, hgA⟩ : ∃ gA, w.heap.size = gA := ⟨_, rfl⟩
  have hbA : b < gA := by omega
  rw [hgA] at HA
  rw [hgA]
  clear hgR hgA
  go_loopw [22] (fun iv wr => ∃ (i : Nat) (l : List Int), iv = .int .i64 i ∧ i ≤ m ∧ Hid (Und w1 wr h g Q n m l) ∧ Hid (∀ a b, a < n → b < i → l.getD (a * m + b) 0 = xs.getD (b * n + a) 0)) (fun iv _ => m - (intOf iv).toNat)
  case atStart => exact ⟨0, _, rfl, Nat.zero_le _, HU, hid (by omega)⟩
  case round =>
    clear HU
    obtain ⟨i, l, rfl, hi, HU, hl⟩ := hrel
    obtain ⟨b0, b1, b2⟩ := (HA.out.ext HU.out.ext).at3
    by_cases hlt : i < m
    · have hck := hcap.out i hlt
      have hcells := fun (j : Nat) (hj : j < n) => K.out (i * n + j) (by have := Ok.out.at_ hlt; omega)
      go_wp2_with fail
      refine (mxRow (m : Int) (n : Int) n i b off xs.length cap wr rfl hn (by omega) hck k2).mono ?_
      rintro _ w4 ⟨rfl, x4⟩
      simp only [← Nat.add_assoc] at hcells
      obtain ⟨o, ho⟩ : ∃ o, off + i * n = o := ⟨_, rfl⟩
      obtain ⟨cp, hcp⟩ : ∃ cp, cap - i * n = cp := ⟨_, rfl⟩
      rw [ho] at hcells
      rw [ho, hcp]
      have hcpn : n ≤ cp := by omega
      have hcpb : cp ≤ 9223372036854775807 := by omega
      have HC := hid hcells
      clear ho hcp hck hcells b0 b1 b2
      go_wp2_with fail
      go_loopw [29] (fun jv wr => ∃ (j : Nat) (l : List Int), jv = .int .i64 j ∧ j ≤ n ∧ Hid (Und w1 wr h g Q n m l) ∧ Hid (∀ a b, a < n → (b < i ∨ b = i ∧ a < j) → l.getD (a * m + b) 0 = xs.getD (b * n + a) 0)) (fun jv _ => n - (intOf jv).toNat)
      case atStart => exact ⟨0, l, rfl, Nat.zero_le _, hid (HU.out.ext' x4), hid fun a b ha hb => hl.out a b ha (by omega)⟩
      case round =>
        clear HU hl
        obtain ⟨j, l, rfl, hj, HU, hl⟩ := hrel
        rename World => wi
        by_cases hlj : j < n
        · have gx := ((HE.out.trans HU.out.ext).cells _ _ hb).trans (HC.out j hlj)
          obtain ⟨x, ex⟩ : ∃ x, xs.getD (i * n + j) 0 = x := ⟨_, rfl⟩
          rw [ex] at gx
          have Ex := hid ex
          clear ex
          obtain ⟨b0, b1, b2⟩ := (HA.out.ext HU.out.ext).at3
          obtain ⟨o0, o1, o2⟩ := HU.out.box.at3
          obtain ⟨q, hq⟩ : ∃ q, j * m = q := ⟨_, rfl⟩
          obtain ⟨t, ht⟩ : ∃ t, q + i = t := ⟨_, rfl⟩
          have htQ : t < Q := by rw [← ht, ← hq, ← HQ.out]; exact at_lt hlj hlt
          have hqi : (j : Int) * (m : Int) = (q : Int) := by rw [← hq]; push_cast; rfl
          have hti : (q : Int) + (i : Int) = (t : Int) := by omega
          have hqb : q ≤ t := by omega
          obtain ⟨gt, ft⟩ := HU.out.at_ htQ
          have Htq := hid (show j * m + i = t by omega)
          clear ht hq
          go_wp2_with fail
          go_roundw
          case rel =>
            refine ⟨j + 1, l.set t x, by go_num, by omega, hid (HU.out.put htQ x), hid fun a b ha hb => ?_⟩
            rw [← Htq.out, put_at x hlt (by omega) (by rw [Htq.out, HU.out.len]; exact htQ)]
            by_cases e : a = j ∧ b = i
            · rw [if_pos e, e.1, e.2]; exact Ex.out.symm
            · rw [if_neg e]; exact hl.out a b ha (by omega)
          case measure => simp [intOf]; omega
        · obtain rfl : n = j := by omega
          go_wp2_with fail
          go_roundw
          case rel => exact ⟨i + 1, l, by go_num, by omega, HU, hid fun a b ha hb => hl.out a b ha (by omega)⟩
          case measure => simp [intOf]; omega
    · obtain rfl : m = i := by omega
      obtain ⟨o0, o1, o2⟩ := HU.out.box.at3
      have hRr := HR.out.ext HU.out.ext
      obtain ⟨r0, r1, r2⟩ := hRr.at3
      have f0 := hRr.frozen 0
      have f1 := hRr.frozen 1
      have f2 := hRr.frozen 2
      have F := hid (HU.out.fin hRr hR1 (HE.out.trans HU.out.ext) hgw (by omega))
      clear hRr
      go_wp2_with fail
      refine bodyPost_ret (results_cell_row_tmp rfl _ _ gR 25 _ (0, 0) _ rfl F.out.1 Try.underlying25 rfl (by kernel_rfl)) rfl ?_
      have e : l = turnL m n xs := grid_of (by rw [HU.out.len, HQ.out]) fun a b ha hb => hl.out a b ha hb
      exact ⟨_, rfl, e ▸ F.out.2.1, F.out.2.2⟩
end Go.Proofs.Ytfpmcajndgkgeaa
/- Package cup: what a row is lessened by; the first number that isn't 0; rows of the call's own, apart from one another. -/
namespace Go.Proofs.Ytfpmcajndgkgeaa
open Go.RowKit Go.Maps

theorem Ext.grownBy {w w' : World} (h : Ext w w') (row : Option Nat) : w.grownBy w' row := ⟨h.os, h.tape, h.output, h.size, fun k hk _ => h.block k hk⟩
theorem Ints.grown {k : IntKind} {w w' : World} {v : Value} {xs : List Int} {row : Option Nat} (h : Ints k w v xs) (hg : w.grownBy w' row) (hne : ∀ b, v.ownBlock = some b → row ≠ some b) : Ints k w' v xs := by
  obtain ⟨a, cap, rfl, h1, h2, h3⟩ := h
  refine ⟨a, cap, rfl, h1, h2, fun hp => ?_⟩
  obtain ⟨b, off, rfl, hb, hc⟩ := h3 hp
  refine ⟨b, off, rfl, Nat.lt_of_lt_of_le hb hg.size, fun j hj => ?_⟩
  rw [World.cell?_of_block (hg.block b hb fun e => hne b rfl e.symm)]
  exact hc j hj
/-- two slices that don't lie in one block -/
def Ap (v u : Value) : Prop := v.ownBlock = none ∨ v.ownBlock ≠ u.ownBlock
theorem Ap.symm {v u : Value} (h : Ap v u) : Ap u v := by
  rcases h with h | h
  · rcases hu : u.ownBlock with _ | k
    · exact .inl hu
    · exact .inr (by rw [h, hu]; simp)
  · exact .inr fun e => h e.symm
/-- an elder row and a younger one lie apart -/
theorem Ap.old {w w' : World} {b b' : Nat} {e e' : TypeId} {s s' n n' : Nat} {v u : Value} {xs ys : List Value} (h : w.ownsRow b e s v n xs) (h' : w'.ownsRow b' e' s' u n' ys) (hb : w.heap.size ≤ b') : Ap v u := by
  rcases hv : v.ownBlock with _ | k
  · exact .inl hv
  · refine .inr fun e => ?_
    rw [hv] at e
    have h1 := (h.lt k hv).2
    have h2 := (h'.lt k e.symm).1
    omega
/-- a row that has grown lies apart from what it lay apart from -/
theorem Ap.grown {w : World} {b : Nat} {e : TypeId} {s n : Nat} {v v' u : Value} {ys : List Value} (h : Ap u v) (hu : w.ownsRow b e s u n ys) (hat : v'.ownBlock = v.ownBlock ∨ v'.ownBlock = some w.heap.size) : Ap u v' := by
  rcases h with h | h
  · exact .inl h
  · rcases hv : u.ownBlock with _ | k
    · exact .inl hv
    · refine .inr fun e => ?_
      rw [hv] at e h
      rcases hat with hat | hat
      · rw [hat] at e; exact h e
      · rw [hat] at e
        have := (hu.lt k hv).2
        injection e with e
        omega
theorem own_put {w : World} {base : Nat} {e ty : TypeId} {g n : Nat} {v : Value} {xs : List Value} {cs : Array Value} (h : w.ownsRow base e 1 v n xs) (hB : Blk w g ty cs) (hty : e ≠ ty) (i : Nat) (u : Value) : (w.setCell ⟨g, i, none⟩ u).ownsRow base e 1 v n xs :=
  h.kept (setCell_grown _ _ _) (ownsRow_blk h hB hty)
theorem map_set_int (l : List Int) (j : Nat) (x : Int) : (l.map (Value.int .u64)).set j (.int .u64 x) = (l.set j x).map (Value.int .u64) := by rw [List.map_set]

set_option maxRecDepth 100000 in
set_option maxHeartbeats 1000000 in
theorem cmLessen (p x : Int) (n base g cap : Nat) (xs us : List Int) (u : Value) (w : World) (hp : rightB p = true) (hx : 0 ≤ x ∧ x < p) (hn : 1 ≤ n) (hn2 : n ≤ 64)
    (hown : w.ownsRow base 22 1 (.slice (some ⟨g, 0, none⟩) n cap) n (xs.map (Value.int .u64))) (hxs : Rng p xs) (hu : Ints .u64 w u us) (hul : us.length = n) (hus : Rng p us) (hne : ∀ k, u.ownBlock = some k → g ≠ k) :
    Calls Try.prog 137 #[.int .u64 p, .slice (some ⟨g, 0, none⟩) n cap, .int .u64 x, u] w fun e w' => e = .returned (.tuple #[]) ∧
      w'.ownsRow base 22 1 (.slice (some ⟨g, 0, none⟩) n cap) n ((tab n fun j => (xs.getD j 0 - x * us.getD j 0 % p) % p).map (Value.int .u64)) ∧ w.grownBy w' (some g) := by
  have hp2 := rightB_true hp
  have HP := hid hp
  have Hxs := hid hxs; have Hus := hid hus
  have hxl : xs.length = n := by have := hown.1; simpa using this
  obtain ⟨F, hF⟩ : ∃ F : Nat → Int, (fun j => (xs.getD j 0 - x * us.getD j 0 % p) % p) = F := ⟨_, rfl⟩
  have HF := hid (fun j => (congrFun hF j : (xs.getD j 0 - x * us.getD j 0 % p) % p = F j))
  rw [hF]
  have Hown := hid hown; have Hxl := hid hxl
  obtain ⟨a, cu, rfl, k1, k2, k3⟩ := hu
  rw [hul] at k1 k3 ⊢
  obtain ⟨b, off, rfl, hb, hc⟩ := k3 (by omega)
  have Hc := hid hc
  have hgb : g ≠ b := hne b rfl
  clear hF k3 hc hown hxl hne hul hxs hus hp
  go_enter Try.func137, Try.ntmps137
  go_wp2_with fail
  go_loopw [14] (fun iv wr => ∃ (j : Nat) (l : List Int), iv = .int .i64 j ∧ j ≤ n ∧ Hid (l.length = n) ∧ Hid (wr.ownsRow base 22 1 (.slice (some ⟨g, 0, none⟩) n cap) n (l.map (Value.int .u64))) ∧ Hid (∀ t, t < n → l.getD t 0 = if t < j then F t else xs.getD t 0) ∧ Hid (w.grownBy wr (some g))) (fun iv _ => n - (intOf iv).toNat)
  case atStart => exact ⟨0, xs, rfl, Nat.zero_le _, Hxl, Hown, hid (fun t ht => by rw [if_neg (by omega)]), hid ((Ext.refl w).grownBy _)⟩
  case round =>
    obtain ⟨j, l, rfl, hj, hl, ho, hget, hgr⟩ := hrel
    by_cases hlt : j < n
    · have gu := (World.cell?_of_block (a := ⟨b, off + j, none⟩) (hgr.out.block b hb (fun e => hgb (by injection e with e; exact e.symm)))).trans (Hc.out j hlt)
      have hlj := hget.out j hlt
      rw [if_neg (by omega)] at hlj
      have rx := Hxs.out.getD hp2.1 j
      have ru := Hus.out.getD hp2.1 j
      have hFj := HF.out j
      obtain ⟨y, ey⟩ : ∃ y, us.getD j 0 = y := ⟨_, rfl⟩
      obtain ⟨z, ez⟩ : ∃ z, xs.getD j 0 = z := ⟨_, rfl⟩
      rw [ey] at gu ru hFj; rw [ez] at hlj rx hFj
      obtain ⟨q, eq, q0, q1⟩ := name_mod (p := p) (x * y) hp2.1
      rw [eq] at hFj
      have hFr := mod_range (z - q) hp2.1
      rw [hFj] at hFr
      obtain ⟨t, et⟩ : ∃ t, F j = t := ⟨_, rfl⟩
      rw [et] at hFj hFr
      have Eq := hid eq; have Et := hid et; have HFj := hid hFj
      have gv := hid fun (W : World) (hW : Ext wr W) => (show W.cell? ⟨g, j, none⟩ = some (.int .u64 z) by
        rw [(ownsRow_ext ho.out hW).cellAt j (by omega), List.getElem?_map, List.getElem?_eq_getElem (show j < l.length by rw [hl.out]; exact hlt)]
        simp only [List.getD, List.getElem?_eq_getElem (show j < l.length by rw [hl.out]; exact hlt), Option.getD_some] at hlj
        rw [hlj]; rfl)
      have fv := hid fun (W : World) (hW : Ext wr W) => (ownsRow_ext ho.out hW).frozenAt j
      have hst := hid fun (W : World) (hW : Ext wr W) => (ownsRow_ext ho.out hW).stored j (.int .u64 t)
      clear ey ez eq et hFj hlj
      go_wp2_with (first
        | (go_at_call 73; refine (mul_as p x y q _ HP.out hx.1 hx.2 ru.1 ru.2 Eq.out).mono ?_; rintro _ w1 ⟨rfl, x1⟩; have g1 := gv.out w1 x1)
        | (go_at_call 44; refine (sub_as p z q t _ HP.out rx.1 rx.2 q0 q1 HFj.out).mono ?_; rintro _ w2 ⟨rfl, x2⟩; have x3 := x1.trans x2; have f2 := fv.out w2 x3; have g2 := gv.out w2 x3))
      have hs := hid (hst.out w2 x3)
      go_roundw
      case rel =>
        refine ⟨j + 1, l.set j t, by go_num, by omega, hid (by rw [List.length_set]; exact hl.out), hid (by rw [← map_set_int]; exact hs.out.1), hid (fun i hi => ?_), hid ((hgr.out.trans (x3.grownBy _)).trans hs.out.2)⟩
        rw [set_get l j i t (by rw [hl.out]; exact hlt)]
        by_cases e : j = i
        · subst e
          rw [if_pos rfl, if_pos (by omega), Et.out]
        · rw [if_neg e, hget.out i hi]
          by_cases e2 : i < j
          · rw [if_pos e2, if_pos (by omega)]
          · rw [if_neg e2, if_neg (by omega)]
      case measure => simp [intOf]; omega
    · obtain rfl : n = j := by omega
      have e : l = tab n F := tab_of hl.out fun t ht => by rw [hget.out t ht, if_pos ht]
      go_wp2_with fail
      go_end0
      exact ⟨rfl, by rw [← e]; exact ho.out, hgr.out⟩

set_option maxHeartbeats 400000 in
theorem cmNot0 (y : Int) (w : World) : Calls Try.prog 139 #[.int .u64 y] w fun e w' => e = .returned (.bool (y != 0)) ∧ w = w' := by
  go_enter Try.func139, Try.ntmps139
  go_wp2_with fail
  go_ret
  exact ⟨rfl, rfl⟩
/-- where the first number that isn't 0 stands -/
def leadV (l : List Int) : Int := if leadE l < l.length then (leadE l : Int) else -1
set_option maxRecDepth 100000 in
set_option maxHeartbeats 1000000 in
theorem cmIndex (v : Value) (xs : List Int) (w : World) (hv : Ints .u64 w v xs) (hx : U64s xs) (hl : xs.length ≤ 1000000) :
    Calls Try.prog 138 #[v, .func (.func 139) #[] #[]] w (Ret (.int .i64 (leadV xs)) w) := by
  have C1 := hid fun y W => cmNot0 y W
  obtain ⟨L, hL⟩ : ∃ L, leadV xs = L := ⟨_, rfl⟩
  rw [hL]
  have HL := hid hL
  have Hx := hid hx
  obtain ⟨a, cap, rfl, k1, k2, k3⟩ := hv
  have K3 := hid k3
  obtain ⟨n, en⟩ : ∃ n, xs.length = n := ⟨_, rfl⟩
  have En := hid en
  rw [en] at k1 K3 hl ⊢
  clear k3 hL en hx
  go_enter Try.func138, Try.ntmps138
  go_wp2_with fail
  go_loopw [8] (fun iv wr => ∃ (j : Nat), iv = .int .i64 j ∧ j ≤ n ∧ Hid (∀ t, t < j → xs.getD t 0 = 0) ∧ Ext w wr) (fun iv _ => n - (intOf iv).toNat)
  case atStart => exact ⟨0, rfl, Nat.zero_le _, hid (fun t ht => absurd ht (Nat.not_lt_zero _)), Ext.refl _⟩
  case round =>
    obtain ⟨j, rfl, hj, hz, hw⟩ := hrel
    by_cases hlt : j < n
    · obtain ⟨b, off, rfl, hb, hc⟩ := K3.out (by omega)
      have g1 := (hw.cells _ _ hb).trans (hc j hlt)
      have ry := Hx.out.get (k := j) (by rw [En.out]; exact hlt)
      obtain ⟨y, ey⟩ : ∃ y, xs.getD j 0 = y := ⟨_, rfl⟩
      rw [ey] at g1 ry
      have Ey := hid ey
      clear ey hc
      by_cases c : y = 0
      · have e0 : ((0 : Int) != 0) = false := by decide
        have C2 := hid (C1.out 0)
        rw [e0] at C2
        subst c
        go_wp2_with (go_at_call 139; refine (C2.out _).mono ?_; rintro _ _ ⟨rfl, rfl⟩)
        go_roundw
        case rel =>
          refine ⟨j + 1, by go_num, by omega, hid (fun t ht => ?_), hw⟩
          by_cases e : t = j
          · rw [e, Ey.out]
          · exact hz.out t (by omega)
        case measure => simp [intOf]; omega
      · have e0 : (y != 0) = true := by simp [c]
        have C2 := hid (C1.out y)
        rw [e0] at C2
        have hLj := hid (show L = (j : Int) by
          have hjl : j < xs.length := by rw [En.out]; exact hlt
          have e1 : leadE xs = j := leadE_eq hjl (by rw [Ey.out]; exact c) hz.out
          rw [← HL.out]; unfold leadV
          rw [e1, if_pos hjl])
        go_wp2_with (go_at_call 139; refine (C2.out _).mono ?_; rintro _ _ ⟨rfl, rfl⟩)
        go_ret
        exact ⟨ret_int hLj.out.symm, hw⟩
    · obtain rfl : n = j := by omega
      have hLj := hid (show L = -1 by
        have e1 : leadE xs = xs.length := leadE_all fun t ht => hz.out t (by rw [← En.out]; exact ht)
        rw [← HL.out]; unfold leadV
        rw [e1, if_neg (Nat.lt_irrefl _)])
      go_wp2_with fail
      go_ret
      exact ⟨ret_int hLj.out.symm, hw⟩
end Go.Proofs.Ytfpmcajndgkgeaa
/- Package perm: sides, orders that are right, One. -/
namespace Go.Proofs.Ytfpmcajndgkgeaa
open Go.RowKit Go.Maps

theorem pmSide (n : Int) (w : World) : Calls Try.prog 142 #[.int .i64 n] w fun e w' => e = .returned (.bool (sideB n)) ∧ w = w' := by
  by_cases h : 1 ≤ n
  · by_cases h' : n ≤ 64
    all_goals
      go_enter Try.func142, Try.ntmps142
      go_wp2
      go_ret
      exact ⟨ret_bool (by simp [sideB]; omega), rfl⟩
  · go_enter Try.func142, Try.ntmps142
    go_wp2
    go_ret
    exact ⟨ret_bool (by simp [sideB]; omega), rfl⟩

/-- rows without repetition, of numbers that are all below their number: an order -/
theorem Ord.of_nodup {n : Nat} {p : List Int} (hl : p.length = n) (hr : ∀ j, j < n → 0 ≤ p.getD j 0 ∧ p.getD j 0 < n) (hn : p.Nodup) : Ord n p := by
  have hp := nodup_sub (r := upL n) hn (fun x hx => by
    obtain ⟨j, hj, rfl⟩ := List.getElem_of_mem hx
    have := hr j (by omega)
    rw [List.getD, List.getElem?_eq_getElem hj] at this
    exact upL_mem.2 this) (by rw [upL_len]; omega)
  exact Ord.of_perm hp.symm
theorem mem_take_getD {p : List Int} {k j : Nat} (hj : j < k) (hk : k ≤ p.length) : p.getD j 0 ∈ p.take k := by
  have h : j < (p.take k).length := by rw [List.length_take]; omega
  have e : p.getD j 0 = (p.take k)[j] := by simp [List.getD, show j < p.length by omega]
  rw [e]; exact List.getElem_mem h
theorem nodup_take_succ {p : List Int} {k : Nat} (h : k < p.length) (hn : (p.take k).Nodup) (hx : p.getD k 0 ∉ p.take k) : (p.take (k + 1)).Nodup := by
  rw [take_snoc_getD h, List.nodup_append]
  exact ⟨hn, by simp, fun a ha b hb e => by
    have : b = p.getD k 0 := by simpa using hb
    subst e; subst this; exact hx ha⟩

set_option maxRecDepth 100000 in
set_option maxHeartbeats 1000000 in
theorem qmRight (v : Value) (p : List Int) (w : World) (hv : Ints .i64 w v p) : Calls Try.prog 140 #[v] w (Ret (.bool (ordB p)) w) := by
  have CS := hid fun n W => pmSide n W
  obtain ⟨O, hO⟩ : ∃ O, ordB p = O := ⟨_, rfl⟩
  rw [hO]
  have HO := hid hO
  obtain ⟨a, cap, rfl, k1, k2, k3⟩ := hv
  have K3 := hid k3
  obtain ⟨n, en⟩ : ∃ n, p.length = n := ⟨_, rfl⟩
  have En := hid en
  rw [en] at k1 K3 ⊢
  clear k3 hO en
  by_cases hn : 1 ≤ (n : Int) ∧ (n : Int) ≤ 64
  · have s : sideB n = true := decide_eq_true hn
    have hn2 : 1 ≤ n ∧ n ≤ 64 := by omega
    obtain ⟨b, off, rfl, hb, hc⟩ := K3.out (by omega)
    have Hc := hid hc
    clear hc hn
    go_enter Try.func140, Try.ntmps140
    go_wp2_with (go_at_call 142; refine (CS.out _ _).mono ?_; rintro _ _ ⟨rfl, rfl⟩)
    go_loopw [12] (fun iv wr => ∃ (k : Nat) (cs : Array Value), iv = .int .i64 k ∧ k ≤ n ∧ Hid (Blk wr w.heap.size 153 cs) ∧ Hid (∀ y, y < 64 → cs[y]? = some (.bool (decide ((y : Int) ∈ p.take k)))) ∧ Hid (∀ j, j < k → 0 ≤ p.getD j 0 ∧ p.getD j 0 < n) ∧ Hid ((p.take k).Nodup) ∧ Ext w wr) (fun iv _ => n - (intOf iv).toNat)
    case atStart => exact ⟨0, _, rfl, Nat.zero_le _, hid (Blk.new _ _ _), hid (fun y hy => by show (Array.replicate 64 (Value.bool false))[y]? = _; simp [hy]), hid (fun j hj => absurd hj (Nat.not_lt_zero _)), hid (by simp), (Ext.refl _).alloc _⟩
    case round =>
      obtain ⟨k, cs, rfl, hk, hbl, hcs, hr, hnd, hxw⟩ := hrel
      by_cases hlt : k < n
      · have g1 := (hxw.cells _ _ hb).trans (Hc.out k hlt)
        obtain ⟨x, ex⟩ : ∃ x, p.getD k 0 = x := ⟨_, rfl⟩
        rw [ex] at g1
        have Ex := hid ex
        have hbad := hid (fun (h : ¬ (0 ≤ x ∧ x < n) ∨ x ∈ p.take k) => (show O = false by
          rw [← HO.out, Bool.eq_false_iff]
          intro hb
          obtain ⟨_, _, ho⟩ := ordB_iff.1 hb
          rw [En.out] at ho
          have hg := ho.get (k := k) hlt
          rw [ex] at hg
          rcases h with h | h
          · exact h hg
          · obtain ⟨j, hj, e⟩ := List.getElem_of_mem h
            rw [List.length_take] at hj
            have := ho.inj (i := j) (k := k) (by omega) hlt (by
              rw [ex, ← e]; simp [List.getD, show j < p.length by omega])
            omega))
        clear ex
        by_cases c1 : x < 0
        · have hf := hid (hbad.out (.inl (by omega)))
          go_wp2_with fail
          go_ret
          exact ⟨ret_bool hf.out.symm, hxw⟩
        by_cases c2 : (n : Int) ≤ x
        · have hf := hid (hbad.out (.inl (by omega)))
          go_wp2_with fail
          go_ret
          exact ⟨ret_bool hf.out.symm, hxw⟩
        obtain ⟨t, rfl⟩ := Int.eq_ofNat_of_zero_le (show 0 ≤ x by omega)
        have ht : t < n := by omega
        have gX := (hbl.out.cell t).trans (hcs.out t (by omega))
        have gF := hbl.out.frozen t
        have hsz : t < cs.size := (Array.getElem?_eq_some_iff.1 (hcs.out t (by omega))).1
        obtain ⟨B, eB⟩ : ∃ B, decide ((t : Int) ∈ p.take k) = B := ⟨_, rfl⟩
        rw [eB] at gX
        have EB := hid eB
        clear eB
        cases B with
        | true =>
          have hf := hid (hbad.out (.inr (of_decide_eq_true EB.out)))
          go_wp2_with fail
          go_ret
          exact ⟨ret_bool hf.out.symm, hxw⟩
        | false =>
          have hnew := hid (of_decide_eq_false EB.out)
          go_wp2_with fail
          go_roundw
          case rel =>
            have hkl : k < p.length := by have := En.out; omega
            refine ⟨k + 1, cs.setIfInBounds t (.bool true), by go_num, by omega, hid (hbl.out.set_ t (.bool true)), hid (fun y hy => ?_), hid (fun j hj => ?_), hid ?_, hxw.setCell (p := ⟨w.heap.size, t, none⟩) (Nat.le_refl _) _⟩
            · rw [Array.getElem?_setIfInBounds, take_snoc_getD hkl, Ex.out]
              by_cases e : t = y
              · subst e
                rw [if_pos rfl, if_pos hsz]
                congr 2
                symm
                exact decide_eq_true (by simp)
              · rw [if_neg e, hcs.out y hy]
                congr 2
                rw [decide_eq_decide]
                simp only [List.mem_append, List.mem_singleton]
                exact ⟨.inl, fun h => h.resolve_right (by omega)⟩
            · by_cases e : j = k
              · rw [e, Ex.out]; omega
              · exact hr.out j (by omega)
            · exact nodup_take_succ hkl hnd.out (by rw [Ex.out]; exact hnew.out)
          case measure => simp [intOf]; omega
      · obtain rfl : n = k := by omega
        have hf := hid (show O = true by
          rw [← HO.out]
          have hl := En.out
          have hnd2 := hnd.out
          rw [List.take_of_length_le (by omega)] at hnd2
          exact (Ord.of_nodup hl hr.out hnd2).b (by omega) hn2.2)
        go_wp2_with fail
        go_ret
        exact ⟨ret_bool hf.out.symm, hxw⟩
  · have s : sideB n = false := decide_eq_false hn
    have hf : O = false := by
      rw [← HO.out, Bool.eq_false_iff]
      intro hb
      obtain ⟨h1, h2, _⟩ := ordB_iff.1 hb
      rw [En.out] at h1 h2
      exact hn (by omega)
    subst hf
    clear hn K3
    go_enter Try.func140, Try.ntmps140
    go_wp2_with (go_at_call 142; refine (CS.out _ _).mono ?_; rintro _ _ ⟨rfl, rfl⟩)
    go_ret
    exact ⟨rfl, Ext.refl _⟩

/-- a block whose first so many cells are numbers -/
theorem Blk.ints {w : World} {g n : Nat} {t : TypeId} {cs : Array Value} {k : IntKind} {xs : List Int} (h : Blk w g t cs) (hl : xs.length = n) (hn : n ≤ 9223372036854775807) (hc : ∀ j, j < n → cs[j]? = some (.int k (xs.getD j 0))) : Ints k w (.slice (some ⟨g, 0, none⟩) n n) xs := by
  subst hl
  exact Ints.mk (Nat.le_refl _) hn h.lt fun j hj => by rw [Nat.zero_add, h.cell j]; exact hc j hj

end Go.Proofs.Ytfpmcajndgkgeaa
