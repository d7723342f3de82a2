/- What the texts Mat3, Mx1, Mx2, Mx3, Mx4, FoR, Mat4 show, in one text. -/
import Derived.Test.YtdfkojbfgodegaaBun10
import Derived.Test.YtdfkojbfgodegaaStep
import Derived.Test.YtdfkojbfgodegaaBoxes
import Derived.Deep.RegionLaw
import Derived.Test.YtdfkojbfgodegaaBun06
import Derived.Laws.ResultCell
import Derived.Test.YtdfkojbfgodegaaBun07
import Derived.Deep.RegionHeld3
import Derived.Test.YtdfkojbfgodegaaBun01
/- The document's own answers of layer 5 that make matrices: Turn, Mul. -/
namespace Go.Proofs.Ytdfkojbfgodegaa
open Go.RowKit Go.Maps

/-- what a call answers: a matrix -/
def RetM (r c : Int) (l : List Int) (w : World) (e : Ending) (w' : World) : Prop := ∃ u, e = .returned (matV r c u) ∧ Ints .u64 w' u l ∧ Ext w w'
/-- a matrix that is built: its box, and its cells so far -/
structure Bld (w0 w : World) (h base : Nat) (r c : Int) (rv : Value) (t : Nat) (G : Nat → Int) : Prop where
  box : Blk w h 25 #[.int .i64 r, .int .i64 c, rv]
  own : w.ownsRow base 22 1 rv t ((tab t G).map (Value.int .u64))
  ext : Ext w0 w
  hb : w0.heap.size ≤ base
  hh : w0.heap.size ≤ h
theorem Bld.ext' {w0 w w' : World} {h base : Nat} {r c : Int} {rv : Value} {t : Nat} {G : Nat → Int} (b : Bld w0 w h base r c rv t G) (y : Ext w w') : Bld w0 w' h base r c rv t G :=
  ⟨b.box.ext y, ownsRow_ext b.own y, b.ext.trans y, b.hb, b.hh⟩
/-- a number is appended, and the box told -/
theorem Bld.next {w0 w w' : World} {h base : Nat} {r c : Int} {rv v' : Value} {t : Nat} {G : Nat → Int} (b : Bld w0 w h base r c rv t G) (hown : w'.ownsRow base 22 1 v' (t + 1) ((tab (t + 1) G).map (Value.int .u64))) (hg : w.grownBy w' rv.ownBlock) :
    Bld w0 (w'.setCell ⟨h, 2, none⟩ v') h base r c v' (t + 1) G := by
  have hne : rv.ownBlock ≠ some h := by
    rcases ownsRow_blk b.own b.box (by decide) with e | e
    · rw [e]; simp
    · exact e
  have hb := b.box.grown hg hne
  have hne2 : v'.ownBlock ≠ some h := by
    rcases ownsRow_blk hown hb (by decide) with e | e
    · rw [e]; simp
    · exact e
  exact ⟨hb.set_ 2 v', hown.kept (setCell_grown _ _ _) (.inr hne2), (b.ext.grown hg fun k e => Nat.le_trans b.hb (b.own.lt k e).1).setCell b.hh _, b.hb, b.hh⟩
theorem Bld.box' {w0 w w' : World} {h base : Nat} {r c : Int} {rv : Value} {t : Nat} {G : Nat → Int} (b : Bld w0 w h base r c rv t G) (hg : w.grownBy w' rv.ownBlock) : w'.cell? ⟨h, 2, none⟩ = some rv ∧ w'.frozen? ⟨h, 2, none⟩ = false := by
  have hne : rv.ownBlock ≠ some h := by
    rcases ownsRow_blk b.own b.box (by decide) with e | e
    · rw [e]; simp
    · exact e
  exact ⟨(b.box.grown hg hne).cell 2, (b.box.grown hg hne).frozen 2⟩
/-- a box is told its three cells -/
theorem own_set3 {w : World} {base g n : Nat} {v : Value} {xs : List Int} {cs : Array Value} (h : w.ownsRow base 22 1 v n (xs.map (Value.int .u64))) (hB : Blk w g 25 cs) (a b c : Value) :
    Ints .u64 (((w.setCell ⟨g, 0, none⟩ a).setCell ⟨g, 1, none⟩ b).setCell ⟨g, 2, none⟩ c) v xs :=
  own_ints (own_set (own_set (own_set h hB (by decide) 0 a) (hB.set_ 0 a) (by decide) 1 b) ((hB.set_ 0 a).set_ 1 b) (by decide) 2 c)
/-- other boxes stay -/
theorem Bld.other {w0 w w' : World} {h base g : Nat} {r c : Int} {rv v' : Value} {t : Nat} {G : Nat → Int} {ty : TypeId} {cs : Array Value} (b : Bld w0 w h base r c rv t G) (hB : Blk w g ty cs) (hty : 22 ≠ ty) (hgh : g ≠ h) (hg : w.grownBy w' rv.ownBlock) :
    Blk (w'.setCell ⟨h, 2, none⟩ v') g ty cs := by
  have hne : rv.ownBlock ≠ some g := by
    rcases ownsRow_blk b.own hB hty with e | e
    · rw [e]; simp
    · exact e
  exact (hB.grown hg hne).grown (setCell_grown _ _ _) (fun e => hgh (by injection e with e; exact e.symm))
theorem Blk.at3 {w : World} {g : Nat} {t : TypeId} {a b c : Value} (h : Blk w g t #[a, b, c]) : w.cell? ⟨g, 0, none⟩ = some a ∧ w.cell? ⟨g, 1, none⟩ = some b ∧ w.cell? ⟨g, 2, none⟩ = some c :=
  ⟨h.cell 0, h.cell 1, h.cell 2⟩

end Go.Proofs.Ytdfkojbfgodegaa
/- Package matrix: sides, vectors, rows, new matrices. -/
namespace Go.Proofs.Ytdfkojbfgodegaa
open Go.RowKit Go.Maps

theorem results_cell_row_tmp {P : Program} {fn : Func} {p u : Tmp} {ty : TypeId} (h : fn.results = #[.cell p ty, .tmp u]) (tmps : Array Value) (w : World) (g : Nat) (t : TypeId) (cs : Array Value) (fr : Nat × Nat) (d : TypeDesc)
    (hp : tmps.getD p undef = .pointer (some ⟨g, 0, none⟩)) (hg : w.heap[g]? = some (.cells cs t fr))
    (hu : P.underlying ty = some d) (hd : (match d with | .struct _ | .array _ _ => true | _ => false) = true) (hi : (P.info? ty).map (·.size) = some cs.size) :
    (results fn tmps).run P w = .ok (.tuple #[.agg cs, tmps.getD u undef]) w := by
  have hp' : tmps[p]?.getD undef = .pointer (some ⟨g, 0, none⟩) := by simpa using hp
  simp [results, h, hp', asAddr, run_loadVar_row w g t ty cs fr d hg hu hd hi, Result.andThen]

/-- may it be a side? -/
def sideB (n : Int) : Bool := decide (1 ≤ n ∧ n ≤ 64)
theorem mxSide (n : Int) (w : World) : Calls Try.prog 46 #[.int .i64 n] w fun e w' => e = .returned (.bool (sideB n)) ∧ w = w' := by
  by_cases h : 1 ≤ n
  · by_cases h' : n ≤ 64
    all_goals
      go_enter Try.func46, Try.ntmps46
      go_wp2
      go_ret
      exact ⟨ret_bool (by simp [sideB]; omega), rfl⟩
  · go_enter Try.func46, Try.ntmps46
    go_wp2
    go_ret
    exact ⟨ret_bool (by simp [sideB]; omega), rfl⟩
theorem mxSides (r c : Int) (w : World) : Calls Try.prog 27 #[.int .i64 r, .int .i64 c] w fun e w' => e = .returned (.bool (sideB r && sideB c)) ∧ w = w' := by
  cases hB : sideB r
  · go_enter Try.func27, Try.ntmps27
    go_wp2_with (go_at_call 46; refine (mxSide _ _).mono ?_; rintro _ _ ⟨rfl, rfl⟩)
    go_ret
    exact ⟨rfl, rfl⟩
  · go_enter Try.func27, Try.ntmps27
    go_wp2_with (go_at_call 46; refine (mxSide _ _).mono ?_; rintro _ _ ⟨rfl, rfl⟩)
    go_ret
    exact ⟨ret_bool (by simp), rfl⟩
/-- a vector of so many numbers? -/
def vecB (p many : Int) (xs : List Int) : Bool := decide ((xs.length : Int) = many) && hasB p xs
theorem mxVector (p many : Int) (v : Value) (xs : List Int) (w : World) (h0 : 0 ≤ p) (h1 : p ≤ 18446744073709551615) (hv : Ints .u64 w v xs) (hx : U64s xs) :
    Calls Try.prog 56 #[.int .u64 p, v, .int .i64 many] w fun e w' => e = .returned (.bool (vecB p many xs)) ∧ w = w' := by
  have H := hid (has_any p v xs w h0 h1 hv hx)
  obtain ⟨B, hB⟩ : ∃ B, hasB p xs = B := ⟨_, rfl⟩
  unfold vecB
  rw [hB] at H ⊢
  obtain ⟨a, cap, rfl, k1, k2, k3⟩ := hv
  clear k3 hB hx
  by_cases e : (xs.length : Int) = many
  · have b : ((xs.length : Int) == many) = true := by simp [e]
    rw [decide_eq_true e]
    clear e
    go_enter Try.func56, Try.ntmps56
    go_wp2_with (go_at_call 28; refine H.out.mono ?_; rintro _ _ ⟨rfl, rfl⟩)
    go_ret
    exact ⟨ret_bool (by simp), rfl⟩
  · have b : ((xs.length : Int) == many) = false := by simp [e]
    rw [decide_eq_false e]
    clear e
    go_enter Try.func56, Try.ntmps56
    go_wp2_with fail
    go_ret
    exact ⟨rfl, rfl⟩
set_option maxHeartbeats 400000 in
theorem mxRow (r c : Int) (n i b off len cap : Nat) (w : World) (hc : c = n) (hn : 1 ≤ n ∧ n ≤ 64) (hi : i ≤ 64) (h1 : i * n + n ≤ cap) (h2 : cap ≤ 9223372036854775807) :
    Calls Try.prog 57 #[matV r c (.slice (some ⟨b, off, none⟩) len cap), .int .i64 i] w (Ret (.slice (some ⟨b, off + i * n, none⟩) n (cap - i * n)) w) := by
  subst hc
  obtain ⟨q, hq⟩ : ∃ q, i * n = q := ⟨_, rfl⟩
  have hqb : q ≤ 4096 := by rw [← hq]; exact Nat.mul_le_mul hi hn.2
  have hqi : (i : Int) * (n : Int) = (q : Int) := by rw [← hq]; push_cast; rfl
  have hqs : ((i : Int) + 1) * (n : Int) = ((q + n : Nat) : Int) := by rw [Int.add_mul, hqi]; push_cast; omega
  rw [hq] at h1 ⊢
  obtain ⟨m, hm⟩ : ∃ m, q + n = m := ⟨_, rfl⟩
  rw [hm] at hqs h1
  have e : m - q = n := by omega
  have hs := fun W => slice_run b off len cap q m (by omega) h1 (by omega) W
  have hs' := fun W => slice_run' b off len cap q m (by omega) h1 (by omega) W
  rw [e] at hs hs'
  clear hq e
  unfold matV
  go_enter Try.func57, Try.ntmps57
  go_wp2_with fail
  go_ret
  exact ⟨rfl, (by repeat (first | exact Ext.refl _ | assumption | refine Ext.drew ?_ | refine Ext.drewN ?_ _ | refine Ext.alloc ?_ _ | refine Ext.trans ?_ (by assumption)))⟩
set_option maxHeartbeats 400000 in
theorem mxNoughts (r c : Nat) (w : World) (hr : r ≤ 64) (hc : c ≤ 64) :
    Calls Try.prog 72 #[.int .i64 r, .int .i64 c] w fun e w' => ∃ g, e = .returned (matV r c (.slice (some ⟨g, 0, none⟩) (r * c) (r * c))) ∧ w.heap.size ≤ g ∧ WRow w' g 0 (List.replicate (r * c) 0) ∧ Ext w w' := by
  obtain ⟨q, hq⟩ : ∃ q, r * c = q := ⟨_, rfl⟩
  have hqi : (r : Int) * (c : Int) = (q : Int) := by rw [← hq]; push_cast; rfl
  have hqb : q ≤ 4096 := by rw [← hq]; exact Nat.mul_le_mul hr hc
  have hmk := make_ints (P := Try.prog) 23 22 .u64 8 (by omega) (by kernel_rfl) (by kernel_rfl) q q (Nat.le_refl _) (by omega)
  rw [hq]
  clear hq
  unfold matV
  go_enter Try.func72, Try.ntmps72
  go_wp2_with fail
  refine bodyPost_ret (results_cell_row rfl _ _ w.heap.size 25 #[.int .i64 (r : Int), .int .i64 (c : Int), .slice (some ⟨w.heap.size + 1, 0, none⟩) q q] (0, 0) _ rfl (Blk.ext (Blk.new w 25 _) ((Ext.refl _).alloc _)) Try.underlying25 rfl (by kernel_rfl)) rfl ?_
  exact ⟨w.heap.size + 1, rfl, by omega, WRow.made (by rw [alloc_size]), (by repeat (first | exact Ext.refl _ | assumption | refine Ext.drew ?_ | refine Ext.drewN ?_ _ | refine Ext.alloc ?_ _ | refine Ext.trans ?_ (by assumption)))⟩
end Go.Proofs.Ytdfkojbfgodegaa
/- Package matrix: Right, Times. -/
namespace Go.Proofs.Ytdfkojbfgodegaa
open Go.RowKit Go.Maps

theorem mxRight (p r c : Int) (v : Value) (xs : List Int) (w : World) (h0 : 0 ≤ p) (h1 : p ≤ 18446744073709551615) (hv : Ints .u64 w v xs) (hx : U64s xs) :
    Calls Try.prog 8 #[.int .u64 p, matV r c v] w (Ret (.bool (matB p r c xs)) w) := by
  have hh := fun (W : World) (hW : Ext w W) => has_any p v xs W h0 h1 (hv.ext hW) hx
  obtain ⟨R, hR⟩ : ∃ R, matB p r c xs = R := ⟨_, rfl⟩
  rw [hR]
  unfold matB at hR
  obtain ⟨B, hB⟩ : ∃ B, hasB p xs = B := ⟨_, rfl⟩
  rw [hB] at hR hh
  obtain ⟨a, cap, rfl, hc1, hc2, hc⟩ := hv
  have Hh := hid hh
  clear hB hh hc hx
  unfold matV
  by_cases g1 : 1 ≤ r ∧ r ≤ 64
  · rw [decide_eq_true g1, Bool.true_and] at hR
    have s1 : sideB r = true := decide_eq_true g1
    by_cases g2 : 1 ≤ c ∧ c ≤ 64
    · rw [decide_eq_true g2, Bool.true_and] at hR
      have s2 : sideB c = true := decide_eq_true g2
      have q1 : 0 ≤ r * c := Int.mul_nonneg (by omega) (by omega)
      have q2 : r * c ≤ 64 * 64 := Int.mul_le_mul g1.2 g2.2 (by omega) (by omega)
      obtain ⟨q, hq⟩ : ∃ q, r * c = q := ⟨_, rfl⟩
      rw [hq] at hR q1 q2
      clear g1 g2
      by_cases g5 : (xs.length : Int) = q
      · rw [decide_eq_true g5, Bool.true_and] at hR
        subst hR
        have b5 : ((xs.length : Int) == q) = true := by simp [g5]
        clear g5
        go_enter Try.func8, Try.ntmps8
        go_wp2_with (first
          | (go_at_call 27; refine (mxSides _ _ _).mono ?_; rintro _ _ ⟨rfl, rfl⟩)
          | (go_at_call 28; refine (Hh.out _ (by repeat (first | exact Ext.refl _ | assumption | refine Ext.drew ?_ | refine Ext.drewN ?_ _ | refine Ext.alloc ?_ _ | refine Ext.trans ?_ (by assumption)))).mono ?_; rintro _ _ ⟨rfl, rfl⟩))
        go_ret
        exact ⟨rfl, (by repeat (first | exact Ext.refl _ | assumption | refine Ext.drew ?_ | refine Ext.drewN ?_ _ | refine Ext.alloc ?_ _ | refine Ext.trans ?_ (by assumption)))⟩
      · rw [decide_eq_false g5, Bool.false_and] at hR
        subst hR
        have b5 : ((xs.length : Int) == q) = false := by simp [g5]
        clear g5
        go_enter Try.func8, Try.ntmps8
        go_wp2_with (go_at_call 27; refine (mxSides _ _ _).mono ?_; rintro _ _ ⟨rfl, rfl⟩)
        go_ret
        exact ⟨rfl, (by repeat (first | exact Ext.refl _ | assumption | refine Ext.drew ?_ | refine Ext.drewN ?_ _ | refine Ext.alloc ?_ _ | refine Ext.trans ?_ (by assumption)))⟩
    · rw [decide_eq_false g2, Bool.false_and] at hR
      subst hR
      have s2 : sideB c = false := decide_eq_false g2
      clear g1 g2
      go_enter Try.func8, Try.ntmps8
      go_wp2_with (go_at_call 27; refine (mxSides _ _ _).mono ?_; rintro _ _ ⟨rfl, rfl⟩)
      go_ret
      exact ⟨rfl, (by repeat (first | exact Ext.refl _ | assumption | refine Ext.drew ?_ | refine Ext.drewN ?_ _ | refine Ext.alloc ?_ _ | refine Ext.trans ?_ (by assumption)))⟩
  · rw [decide_eq_false g1, Bool.false_and] at hR
    subst hR
    have s1 : sideB r = false := decide_eq_false g1
    clear g1
    go_enter Try.func8, Try.ntmps8
    go_wp2_with (go_at_call 27; refine (mxSides _ _ _).mono ?_; rintro _ _ ⟨rfl, rfl⟩)
    go_ret
    exact ⟨rfl, (by repeat (first | exact Ext.refl _ | assumption | refine Ext.drew ?_ | refine Ext.drewN ?_ _ | refine Ext.alloc ?_ _ | refine Ext.trans ?_ (by assumption)))⟩

/-- a right matrix of m rows and n columns, all told over Nat -/
structure MatOk (p : Int) (m n : Nat) (xs : List Int) : Prop where
  hp : rightB p = true
  hx : Rng p xs
  hm : 1 ≤ m ∧ m ≤ 64
  hn : 1 ≤ n ∧ n ≤ 64
  hl : xs.length = m * n
theorem MatOk.u64 {p : Int} {m n : Nat} {xs : List Int} (h : MatOk p m n xs) : U64s xs := h.hx.u64 (rightB_true h.hp).2
theorem MatOk.b {p : Int} {m n : Nat} {xs : List Int} (h : MatOk p m n xs) : matB p m n xs = true := (matB_iff h.u64).2 ⟨h.hp, h.hx, m, n, rfl, rfl, h.hm.1, h.hm.2, h.hn.1, h.hn.2, h.hl⟩
theorem MatOk.of {p r c : Int} {xs : List Int} (hx : U64s xs) (h : matB p r c xs = true) : ∃ m n : Nat, r = m ∧ c = n ∧ MatOk p m n xs := by
  obtain ⟨h1, h2, m, n, rfl, rfl, h3, h4, h5, h6, h7⟩ := (matB_iff hx).1 h
  exact ⟨m, n, rfl, rfl, h1, h2, ⟨h3, h4⟩, ⟨h5, h6⟩, h7⟩
theorem MatOk.pos {p : Int} {m n : Nat} {xs : List Int} (h : MatOk p m n xs) : 0 < xs.length := by rw [h.hl]; exact Nat.mul_pos h.hm.1 h.hn.1
theorem MatOk.at_ {p : Int} {m n : Nat} {xs : List Int} (h : MatOk p m n xs) {i : Nat} (hi : i < m) : i * n + n ≤ xs.length := by
  rw [h.hl, ← Nat.succ_mul]; exact Nat.mul_le_mul_right _ hi
/-- row i -/
def piece (xs : List Int) (i n : Nat) : List Int := (xs.drop (i * n)).take n
theorem piece_len {xs : List Int} {i n : Nat} (h : i * n + n ≤ xs.length) : (piece xs i n).length = n := by simp [piece]; omega
theorem piece_get (xs : List Int) (i n k : Nat) (h : k < n) : (piece xs i n).getD k 0 = xs.getD (i * n + k) 0 := sub_get xs _ n k h
theorem piece_rng {p : Int} {xs : List Int} (h : Rng p xs) (i n : Nat) : Rng p (piece xs i n) := fun x hx => h x (List.mem_of_mem_drop (List.mem_of_mem_take hx))
theorem piece_tab {xs : List Int} {i n : Nat} (h : i * n + n ≤ xs.length) : piece xs i n = tab n fun k => xs.getD (i * n + k) 0 := tab_of (piece_len h) fun k hk => piece_get xs i n k hk
theorem dot_piece {p : Int} {xs ys : List Int} {i n : Nat} (h : i * n + n ≤ xs.length) (hy : ys.length = n) : dotZ (piece xs i n) ys % p = dv p n (fun k => xs.getD (i * n + k) 0) fun k => ys.getD k 0 := by
  rw [dv_dotZ (piece_len h) hy]
  exact dv_congr (fun k hk => piece_get xs i n k hk) fun _ _ => rfl
theorem vecB_yes {p : Int} {n : Nat} {ys : List Int} (hp : rightB p = true) (hy : Rng p ys) (hl : ys.length = n) : vecB p n ys = true := by
  unfold vecB
  rw [hl, hy.has hp, decide_eq_true rfl]; rfl
theorem vecB_true {p c : Int} {ys : List Int} (hu : U64s ys) (h : vecB p c ys = true) : rightB p = true ∧ Rng p ys ∧ (ys.length : Int) = c := by
  unfold vecB at h
  rw [Bool.and_eq_true, decide_eq_true_eq] at h
  obtain ⟨h5, h6⟩ := hasB_true h.2
  exact ⟨h5, fun x hx' => ⟨(hu x hx').1, h6 x hx'⟩, h.1⟩
/-- what a call answers: numbers, and that all is well -/
def RetV (l : List Int) (w : World) (e : Ending) (w' : World) : Prop := ∃ v, e = .returned (.tuple #[v, .int .i64 0]) ∧ Ints .u64 w' v l ∧ Ext w w'
/-- .. a matrix -/
def RetN (r c : Int) (l : List Int) (w : World) (e : Ending) (w' : World) : Prop := ∃ u, e = .returned (.tuple #[matV r c u, .int .i64 0]) ∧ Ints .u64 w' u l ∧ Ext w w'

theorem mxTimes_no (p r c : Int) (v u : Value) (xs ys : List Int) (w : World) (h0 : 0 ≤ p) (h1 : p ≤ 18446744073709551615) (hv : Ints .u64 w v xs) (hx : U64s xs) (hu : Ints .u64 w u ys) (hy : U64s ys) (h : (matB p r c xs && vecB p c ys) = false) :
    Calls Try.prog 37 #[.int .u64 p, matV r c v, u] w (Ret (.tuple #[.slice none 0 0, .int .i64 1]) w) := by
  have C1 := hid fun (W : World) (hW : Ext w W) => mxRight p r c v xs W h0 h1 (hv.ext hW) hx
  have C2 := hid fun (W : World) (hW : Ext w W) => mxVector p c u ys W h0 h1 (hu.ext hW) hy
  obtain ⟨a, cap, rfl, k1, k2, k3⟩ := hv
  clear k3 hu hx hy
  have hbox := hid (box3 w 25 (.int .i64 r) (.int .i64 c) (.slice a xs.length cap))
  unfold matV at C1
  unfold matV
  cases g1 : matB p r c xs
  · rw [g1] at C1
    clear h g1
    go_enter Try.func37, Try.ntmps37
    go_wp2_with (go_at_call 8; refine (C1.out _ (by repeat (first | exact Ext.refl _ | assumption | refine Ext.drew ?_ | refine Ext.drewN ?_ _ | refine Ext.alloc ?_ _ | refine Ext.trans ?_ (by assumption)))).mono ?_; rintro _ w1 ⟨rfl, x1⟩)
    go_ret2
    exact ⟨rfl, Ext.trans (by repeat (first | exact Ext.refl _ | assumption | refine Ext.drew ?_ | refine Ext.drewN ?_ _ | refine Ext.alloc ?_ _ | refine Ext.trans ?_ (by assumption))) x1⟩
  · rw [g1, Bool.true_and] at h
    rw [g1] at C1
    rw [h] at C2
    clear h g1
    go_enter Try.func37, Try.ntmps37
    go_wp2_with (first
      | (go_at_call 8; refine (C1.out _ (by repeat (first | exact Ext.refl _ | assumption | refine Ext.drew ?_ | refine Ext.drewN ?_ _ | refine Ext.alloc ?_ _ | refine Ext.trans ?_ (by assumption)))).mono ?_; rintro _ w1 ⟨rfl, x1⟩; obtain ⟨b0, b1, b2⟩ := hbox.out w1 x1)
      | (go_at_call 56; refine (C2.out _ (Ext.trans (by repeat (first | exact Ext.refl _ | assumption | refine Ext.drew ?_ | refine Ext.drewN ?_ _ | refine Ext.alloc ?_ _ | refine Ext.trans ?_ (by assumption))) x1)).mono ?_; rintro _ _ ⟨rfl, rfl⟩))
    go_ret2
    exact ⟨rfl, Ext.trans (by repeat (first | exact Ext.refl _ | assumption | refine Ext.drew ?_ | refine Ext.drewN ?_ _ | refine Ext.alloc ?_ _ | refine Ext.trans ?_ (by assumption))) x1⟩

set_option maxRecDepth 100000 in
set_option maxHeartbeats 1000000 in
theorem mxTimes_yes (p : Int) (m n : Nat) (v u : Value) (xs ys : List Int) (w : World) (ok : MatOk p m n xs) (hv : Ints .u64 w v xs) (hu : Ints .u64 w u ys) (hy : Rng p ys) (hyl : ys.length = n) :
    Calls Try.prog 37 #[.int .u64 p, matV m n v, u] w (RetV (timesL p m n xs ys) w) := by
  have hp2 := rightB_true ok.hp
  have C1 := hid fun (W : World) (hW : Ext w W) => mxRight p m n v xs W (by omega) (by omega) (hv.ext hW) ok.u64
  have C2 := hid fun (W : World) (hW : Ext w W) => mxVector p n u ys W (by omega) (by omega) (hu.ext hW) (hy.u64 hp2.2)
  rw [ok.b] at C1
  rw [vecB_yes ok.hp hy hyl] at C2
  have Ok := hid ok; have Hv := hid hv; have Hu := hid hu; have Hy := hid hy; have Hyl := hid hyl
  have hm := ok.hm; have hn := ok.hn
  obtain ⟨a, cap, rfl, k1, k2, k3⟩ := hv
  obtain ⟨b, off, rfl, hb, k4⟩ := k3 ok.pos
  have hcap := hid fun (i : Nat) (h : i < m) => Nat.le_trans (ok.at_ h) k1
  clear k3 k4 hu hy hyl ok
  obtain ⟨F, hF⟩ : ∃ F : Nat → Int, (fun i => dv p n (fun k => xs.getD (i * n + k) 0) fun k => ys.getD k 0) = F := ⟨_, rfl⟩
  have HF := hid (fun i => (congrFun hF i : dv p n (fun k => xs.getD (i * n + k) 0) (fun k => ys.getD k 0) = F i))
  unfold timesL
  rw [hF]
  clear hF
  have hmk := make_ints (P := Try.prog) 23 22 .u64 8 (by omega) (by kernel_rfl) (by kernel_rfl) m m (Nat.le_refl _) (by omega)
  have hbox := hid (box3 w 25 (.int .i64 (m : Int)) (.int .i64 (n : Int)) (.slice (some ⟨b, off, none⟩) xs.length cap))
  have hx0 : Ext w (w.alloc (.cells #[.int .i64 (m : Int), .int .i64 (n : Int), .slice (some ⟨b, off, none⟩) xs.length cap] 25)) := (Ext.refl w).alloc _
  have hrl := hid (List.length_replicate (n := m) (a := (0 : Int)))
  unfold matV at C1
  unfold matV
  go_enter Try.func37, Try.ntmps37
  go_wp2_with (first
    | (go_at_call 8; refine (C1.out _ (by repeat (first | exact Ext.refl _ | assumption | refine Ext.drew ?_ | refine Ext.drewN ?_ _ | refine Ext.alloc ?_ _ | refine Ext.trans ?_ (by assumption)))).mono ?_; rintro _ w1 ⟨rfl, x1⟩; obtain ⟨b0, b1, b2⟩ := hbox.out w1 x1)
    | (go_at_call 56; refine (C2.out _ (hx0.trans x1)).mono ?_; rintro _ _ ⟨rfl, rfl⟩))
  have hrow := hid (WRow.made (w := w1) (t := 22) (n := m) rfl)
  obtain ⟨g, hg⟩ : ∃ g, w1.heap.size = g := ⟨_, rfl⟩
  have hgw : w1.heap.size ≤ g := by omega
  obtain ⟨w2, hw2⟩ : ∃ w2, w1.alloc (.cells (madeCells #[Value.int .u64 0] m) 22) = w2 := ⟨_, rfl⟩
  have hx2 : Ext w1 w2 := hw2 ▸ (Ext.refl w1).alloc _
  rw [hg, hw2] at hrow
  rw [hg, hw2]
  clear hg hw2 hmk b0 b1 b2
  go_loopw [27] (fun i wr => ∃ (k : Nat) (l : List Int), i = .int .i64 k ∧ k ≤ m ∧ Hid (l.length = m) ∧ Hid (∀ j, l.getD j 0 = if j < k then F j else 0) ∧ Hid (WRow wr g 0 l) ∧ Ext w1 wr) (fun i _ => m - (intOf i).toNat)
  case atStart => exact ⟨0, _, rfl, Nat.zero_le _, hrl, hid (fun j => by rw [replicate_get]; simp), hrow, hx2⟩
  case round =>
    obtain ⟨k, l, rfl, hk, hln, hl2, Hrw, hxw⟩ := hrel
    clear hx2
    obtain ⟨b0, b1, b2⟩ := hbox.out wr (x1.trans hxw)
    by_cases hlt : k < m
    · have hck := hcap.out k hlt
      have hfk := HF.out k
      obtain ⟨z, hz⟩ : ∃ z, F k = z := ⟨_, rfl⟩
      rw [hz] at hfk
      have hdot := hid ((dot_piece (p := p) (Ok.out.at_ hlt) Hyl.out).trans hfk)
      have Hz := hid hz
      clear hz hfk
      go_wp2_with fail
      refine (mxRow (m : Int) (n : Int) n k b off xs.length cap wr rfl hn (by omega) hck k2).mono ?_
      rintro _ w3 ⟨rfl, x3⟩
      go_wp2_with fail
      refine (dot_as p z _ u (piece xs k n) ys w3 ((Hv.out.ext ((hx0.trans x1).trans (hxw.trans x3))).sub (k * n) n (Ok.out.at_ hlt) hn.1) (Hu.out.ext ((hx0.trans x1).trans (hxw.trans x3))) ((piece_rng Ok.out.hx k n).u64 hp2.2) (Hy.out.u64 hp2.2) (by rw [piece_len (Ok.out.at_ hlt), Hyl.out]) ((piece_rng Ok.out.hx k n).has Ok.out.hp) (Hy.out.has Ok.out.hp) hdot.out).mono ?_
      rintro _ w4 ⟨rfl, x4⟩
      have g2 := ((Hrw.out.ext (x3.trans x4)).2 k (by rw [hln.out]; omega)).1
      have f2 := ((Hrw.out.ext (x3.trans x4)).2 k (by rw [hln.out]; omega)).2
      rw [Nat.zero_add] at g2 f2
      go_wp2_with fail
      go_roundw
      case rel =>
        have hs := (Hrw.out.ext (x3.trans x4)).set_ (i := k) (by rw [hln.out]; omega) z
        rw [Nat.zero_add] at hs
        refine ⟨k + 1, l.set k z, by go_num, by omega, hid (by rw [List.length_set]; exact hln.out), hid (fun j => ?_), hid hs, (hxw.trans (x3.trans x4)).setCell (p := ⟨g, k, none⟩) hgw _⟩
        rw [set_get l k j z (by rw [hln.out]; omega), hl2.out]
        by_cases e : k = j
        · subst e
          rw [if_pos rfl, if_pos (by omega), Hz.out]
        · rw [if_neg e]
          by_cases e2 : j < k
          · rw [if_pos e2, if_pos (by omega)]
          · rw [if_neg e2, if_neg (by omega)]
      case measure => simp [intOf]; omega
    · obtain rfl : m = k := by omega
      go_wp2_with fail
      go_ret2
      have e : l = tab m F := tab_of hln.out fun j hj => by rw [hl2.out, if_pos hj]
      exact ⟨_, rfl, e ▸ Hrw.out.ints' hln.out (Nat.le_refl _) (by omega), hx0.trans (x1.trans hxw)⟩
end Go.Proofs.Ytdfkojbfgodegaa
/- Package matrix: matrices under way; Turn, Left. -/
namespace Go.Proofs.Ytdfkojbfgodegaa
open Go.RowKit Go.Maps

/-- a matrix under way: its box, and its cells -/
structure Und (w0 w : World) (h g Q : Nat) (r c : Int) (l : List Int) : Prop where
  box : Blk w h 25 #[.int .i64 r, .int .i64 c, .slice (some ⟨g, 0, none⟩) Q Q]
  row : WRow w g 0 l
  len : l.length = Q
  ext : Ext w0 w
  hg : w0.heap.size ≤ g
  hh : w0.heap.size ≤ h
  ne : g ≠ h
theorem Und.ext' {w0 w w' : World} {h g Q : Nat} {r c : Int} {l : List Int} (b : Und w0 w h g Q r c l) (y : Ext w w') : Und w0 w' h g Q r c l :=
  ⟨b.box.ext y, b.row.ext y, b.len, b.ext.trans y, b.hg, b.hh, b.ne⟩
theorem Und.put {w0 w : World} {h g Q : Nat} {r c : Int} {l : List Int} (b : Und w0 w h g Q r c l) {i : Nat} (hi : i < Q) (x : Int) : Und w0 (w.setCell ⟨g, i, none⟩ (.int .u64 x)) h g Q r c (l.set i x) := by
  have hs := b.row.set_ (i := i) (by rw [b.len]; exact hi) x
  rw [Nat.zero_add] at hs
  exact ⟨b.box.grown (setCell_grown _ _ _) (fun e => b.ne (by injection e)), hs, by rw [List.length_set]; exact b.len, b.ext.setCell (p := ⟨g, i, none⟩) b.hg _, b.hg, b.hh, b.ne⟩
theorem Und.at_ {w0 w : World} {h g Q : Nat} {r c : Int} {l : List Int} (b : Und w0 w h g Q r c l) {i : Nat} (hi : i < Q) : w.cell? ⟨g, i, none⟩ = some (.int .u64 (l.getD i 0)) ∧ w.frozen? ⟨g, i, none⟩ = false := by
  have := b.row.2 i (by rw [b.len]; exact hi)
  rw [Nat.zero_add] at this
  exact this
theorem Und.start {w0 w : World} {g Q : Nat} {r c : Int} {l : List Int} (hg : w0.heap.size ≤ g) (hrow : WRow w g 0 l) (hl : l.length = Q) (x : Ext w0 w) :
    Und w0 (w.alloc (.cells #[.int .i64 r, .int .i64 c, .slice (some ⟨g, 0, none⟩) Q Q] 25)) w.heap.size g Q r c l :=
  ⟨Blk.new _ _ _, hrow.ext ((Ext.refl _).alloc _), hl, x.alloc _, hg, x.size, Nat.ne_of_lt hrow.1⟩
/-- the answer's box is told a matrix -/
theorem fin0 {w wv : World} {g : Nat} {x y z : Value} (hR : Blk w g 25 #[x, y, z]) (hv : Ext wv w) (hg : wv.heap.size ≤ g) (a b c : Value) :
    Blk (((w.setCell ⟨g, 0, none⟩ a).setCell ⟨g, 1, none⟩ b).setCell ⟨g, 2, none⟩ c) g 25 #[a, b, c] ∧ Ext wv (((w.setCell ⟨g, 0, none⟩ a).setCell ⟨g, 1, none⟩ b).setCell ⟨g, 2, none⟩ c) :=
  ⟨((hR.set_ 0 a).set_ 1 b).set_ 2 c, ((hv.setCell (p := ⟨g, 0, none⟩) hg a).setCell (p := ⟨g, 1, none⟩) hg b).setCell (p := ⟨g, 2, none⟩) hg c⟩
theorem Und.fin {w0 w wv : World} {h g Q G : Nat} {r c : Int} {l : List Int} (b : Und w0 w h g Q r c l) {x y z : Value} (hR : Blk w G 25 #[x, y, z]) (hG : G < w0.heap.size) (hv : Ext wv w) (hgv : wv.heap.size ≤ G) (hQ : Q ≤ 9223372036854775807) :
    Blk (((w.setCell ⟨G, 0, none⟩ (.int .i64 r)).setCell ⟨G, 1, none⟩ (.int .i64 c)).setCell ⟨G, 2, none⟩ (.slice (some ⟨g, 0, none⟩) Q Q)) G 25 #[.int .i64 r, .int .i64 c, .slice (some ⟨g, 0, none⟩) Q Q] ∧
    Ints .u64 (((w.setCell ⟨G, 0, none⟩ (.int .i64 r)).setCell ⟨G, 1, none⟩ (.int .i64 c)).setCell ⟨G, 2, none⟩ (.slice (some ⟨g, 0, none⟩) Q Q)) (.slice (some ⟨g, 0, none⟩) Q Q) l ∧
    Ext wv (((w.setCell ⟨G, 0, none⟩ (.int .i64 r)).setCell ⟨G, 1, none⟩ (.int .i64 c)).setCell ⟨G, 2, none⟩ (.slice (some ⟨g, 0, none⟩) Q Q)) := by
  have hne : g ≠ G := by have := b.hg; omega
  refine ⟨(fin0 hR hv hgv _ _ _).1, ?_, (fin0 hR hv hgv _ _ _).2⟩
  exact (((b.row.set_other hne).set_other hne).set_other hne).ints' b.len (Nat.le_refl _) hQ
theorem boxes2 (w : World) (t t' : TypeId) (A B : Array Value) :
    Blk ((w.alloc (.cells A t)).alloc (.cells B t')) w.heap.size t A ∧ Blk ((w.alloc (.cells A t)).alloc (.cells B t')) (w.heap.size + 1) t' B ∧ Ext w ((w.alloc (.cells A t)).alloc (.cells B t')) :=
  ⟨(Blk.new w t A).ext ((Ext.refl _).alloc _), Blk.at_ (by rw [alloc_size]), ((Ext.refl w).alloc _).alloc _⟩
theorem at_inj {c i k i' k' : Nat} (hk : k < c) (hk' : k' < c) (h : i * c + k = i' * c + k') : i = i' ∧ k = k' := by
  constructor
  · rw [← at_div hk (i := i), h, at_div hk']
  · rw [← at_mod hk (i := i), h, at_mod hk']
theorem put_at {l : List Int} {c j i a b : Nat} (x : Int) (hi : i < c) (hb : b < c) (hl : j * c + i < l.length) : (l.set (j * c + i) x).getD (a * c + b) 0 = if a = j ∧ b = i then x else l.getD (a * c + b) 0 := by
  rw [set_get l _ _ x hl]
  by_cases e : a = j ∧ b = i
  · rw [if_pos e, if_pos (by rw [e.1, e.2])]
  · rw [if_neg e, if_neg (fun h => e (by obtain ⟨h1, h2⟩ := at_inj hi hb h; exact ⟨h1.symm, h2.symm⟩))]

/-- what a call answers where something isn't right, instead of a matrix -/
def noMat : Value := .tuple #[.agg #[.int .i64 0, .int .i64 0, .slice none 0 0], .int .i64 1]
set_option maxHeartbeats 400000 in
theorem mxTurn_no (p r c : Int) (v : Value) (xs : List Int) (w : World) (h0 : 0 ≤ p) (h1 : p ≤ 18446744073709551615) (hv : Ints .u64 w v xs) (hx : U64s xs) (h : matB p r c xs = false) :
    Calls Try.prog 58 #[.int .u64 p, matV r c v] w (Ret noMat w) := by
  have C1 := hid fun (W : World) (hW : Ext w W) => mxRight p r c v xs W h0 h1 (hv.ext hW) hx
  rw [h] at C1
  unfold matV at C1
  unfold matV noMat
  have hb2 := hid (boxes2 w 25 25 #[.int .i64 r, .int .i64 c, v] #[.int .i64 0, .int .i64 0, .slice none 0 0])
  obtain ⟨a, cap, rfl, k1, k2, k3⟩ := hv
  clear k3 hx h
  go_enter Try.func58, Try.ntmps58
  go_wp2_with (go_at_call 8; refine (C1.out _ (by repeat (first | exact Ext.refl _ | assumption | refine Ext.drew ?_ | refine Ext.drewN ?_ _ | refine Ext.alloc ?_ _ | refine Ext.trans ?_ (by assumption)))).mono ?_; rintro _ w1 ⟨rfl, x1⟩; have HR := hid (hb2.out.2.1.ext x1); have HE := hid (hb2.out.2.2.trans x1); obtain ⟨b0, b1, b2⟩ := HR.out.at3; have f0 := HR.out.frozen 0; have f1 := HR.out.frozen 1; have f2 := HR.out.frozen 2)
  have F := fin0 HR.out HE.out (by omega) (.int .i64 0) (.int .i64 0) (.slice none 0 0)
  refine bodyPost_ret (results_cell_row_tmp rfl _ _ (w.heap.size + 1) 25 _ (0, 0) _ rfl F.1 Try.underlying25 rfl (by kernel_rfl)) rfl ?_
  exact ⟨rfl, F.2⟩

set_option maxRecDepth 100000 in
set_option maxHeartbeats 1000000 in
theorem mxTurn_yes (p : Int) (m n : Nat) (v : Value) (xs : List Int) (w : World) (ok : MatOk p m n xs) (hv : Ints .u64 w v xs) :
    Calls Try.prog 58 #[.int .u64 p, matV m n v] w (RetN n m (turnL m n xs) w) := by
  have hp2 := rightB_true ok.hp
  have C1 := hid fun (W : World) (hW : Ext w W) => mxRight p m n v xs W (by omega) (by omega) (hv.ext hW) ok.u64
  rw [ok.b] at C1
  have Ok := hid ok
  have hm := ok.hm; have hn := ok.hn
  obtain ⟨a, cap, rfl, k1, k2, k3⟩ := hv
  obtain ⟨b, off, rfl, hb, k4⟩ := k3 ok.pos
  have K := hid k4
  have hcap := hid fun (i : Nat) (h : i < m) => Nat.le_trans (ok.at_ h) k1
  clear k3 k4 ok
  obtain ⟨Q, hQ⟩ : ∃ Q, n * m = Q := ⟨_, rfl⟩
  have hQb : Q ≤ 4096 := by rw [← hQ]; exact Nat.mul_le_mul hn.2 hm.2
  have HN := hid fun W : World => mxNoughts n m W hn.2 hm.2
  rw [hQ] at HN
  have HQ := hid hQ
  clear hQ
  have hb2 := hid (boxes2 w 25 25 #[.int .i64 (m : Int), .int .i64 (n : Int), .slice (some ⟨b, off, none⟩) xs.length cap] #[.int .i64 0, .int .i64 0, .slice none 0 0])
  unfold matV at C1
  unfold matV
  go_enter Try.func58, Try.ntmps58
  go_wp2_with (go_at_call 8; refine (C1.out _ (by repeat (first | exact Ext.refl _ | assumption | refine Ext.drew ?_ | refine Ext.drewN ?_ _ | refine Ext.alloc ?_ _ | refine Ext.trans ?_ (by assumption)))).mono ?_; rintro _ w1 ⟨rfl, x1⟩; have HA := hid (hb2.out.1.ext x1); have HR := hid (hb2.out.2.1.ext x1); have HE := hid (hb2.out.2.2.trans x1); obtain ⟨b0, b1, b2⟩ := HA.out.at3)
  have hR1 := HR.out.lt
  refine (HN.out _).mono ?_
  rintro _ w2 ⟨g, rfl, hg, hrow, x2⟩
  have HU := hid (Und.start (Q := Q) (r := (n : Int)) (c := (m : Int)) hg hrow List.length_replicate x2)
  unfold matV
  have b3 := (HA.out.ext (x2.alloc (.cells #[.int .i64 (n : Int), .int .i64 (m : Int), .slice (some ⟨g, 0, none⟩) Q Q] 25))).at3
  clear b0 b1 b2
  obtain ⟨b0, b1, b2⟩ := b3
  go_wp2_with fail
  obtain ⟨h, hh⟩ : ∃ h, w2.heap.size = h := ⟨_, rfl⟩
  obtain ⟨w3, hw3⟩ : ∃ w3, w2.alloc (.cells #[.int .i64 (n : Int), .int .i64 (m : Int), .slice (some ⟨g, 0, none⟩) Q Q] 25) = w3 := ⟨_, rfl⟩
  rw [hw3, hh] at HU
  rw [hw3, hh]
  clear hh hw3 b0 b1 b2 hrow x2 hg
  obtain ⟨gR, hgR⟩ : ∃ gR, w.heap.size + 1 = gR := ⟨_, rfl⟩
  have hgw : w.heap.size ≤ gR := by omega
  rw [hgR] at HR hR1
  rw [hgR]
  obtain ⟨gA, hgA⟩ : ∃ gA, w.heap.size = gA := ⟨_, rfl⟩
  have hbA : b < gA := by omega
  rw [hgA] at HA
  rw [hgA]
  clear hgR hgA
  go_loopw [22] (fun iv wr => ∃ (i : Nat) (l : List Int), iv = .int .i64 i ∧ i ≤ m ∧ Hid (Und w1 wr h g Q n m l) ∧ Hid (∀ a b, a < n → b < i → l.getD (a * m + b) 0 = xs.getD (b * n + a) 0)) (fun iv _ => m - (intOf iv).toNat)
  case atStart => exact ⟨0, _, rfl, Nat.zero_le _, HU, hid (by omega)⟩
  case round =>
    clear HU
    obtain ⟨i, l, rfl, hi, HU, hl⟩ := hrel
    obtain ⟨b0, b1, b2⟩ := (HA.out.ext HU.out.ext).at3
    by_cases hlt : i < m
    · have hck := hcap.out i hlt
      have hcells := fun (j : Nat) (hj : j < n) => K.out (i * n + j) (by have := Ok.out.at_ hlt; omega)
      go_wp2_with fail
      refine (mxRow (m : Int) (n : Int) n i b off xs.length cap wr rfl hn (by omega) hck k2).mono ?_
      rintro _ w4 ⟨rfl, x4⟩
      simp only [← Nat.add_assoc] at hcells
      obtain ⟨o, ho⟩ : ∃ o, off + i * n = o := ⟨_, rfl⟩
      obtain ⟨cp, hcp⟩ : ∃ cp, cap - i * n = cp := ⟨_, rfl⟩
      rw [ho] at hcells
      rw [ho, hcp]
      have hcpn : n ≤ cp := by omega
      have hcpb : cp ≤ 9223372036854775807 := by omega
      have HC := hid hcells
      clear ho hcp hck hcells b0 b1 b2
      go_wp2_with fail
      go_loopw [29] (fun jv wr => ∃ (j : Nat) (l : List Int), jv = .int .i64 j ∧ j ≤ n ∧ Hid (Und w1 wr h g Q n m l) ∧ Hid (∀ a b, a < n → (b < i ∨ b = i ∧ a < j) → l.getD (a * m + b) 0 = xs.getD (b * n + a) 0)) (fun jv _ => n - (intOf jv).toNat)
      case atStart => exact ⟨0, l, rfl, Nat.zero_le _, hid (HU.out.ext' x4), hid fun a b ha hb => hl.out a b ha (by omega)⟩
      case round =>
        clear HU hl
        obtain ⟨j, l, rfl, hj, HU, hl⟩ := hrel
        rename World => wi
        by_cases hlj : j < n
        · have gx := ((HE.out.trans HU.out.ext).cells _ _ hb).trans (HC.out j hlj)
          obtain ⟨x, ex⟩ : ∃ x, xs.getD (i * n + j) 0 = x := ⟨_, rfl⟩
          rw [ex] at gx
          have Ex := hid ex
          clear ex
          obtain ⟨b0, b1, b2⟩ := (HA.out.ext HU.out.ext).at3
          obtain ⟨o0, o1, o2⟩ := HU.out.box.at3
          obtain ⟨q, hq⟩ : ∃ q, j * m = q := ⟨_, rfl⟩
          obtain ⟨t, ht⟩ : ∃ t, q + i = t := ⟨_, rfl⟩
          have htQ : t < Q := by rw [← ht, ← hq, ← HQ.out]; exact at_lt hlj hlt
          have hqi : (j : Int) * (m : Int) = (q : Int) := by rw [← hq]; push_cast; rfl
          have hti : (q : Int) + (i : Int) = (t : Int) := by omega
          have hqb : q ≤ t := by omega
          obtain ⟨gt, ft⟩ := HU.out.at_ htQ
          have Htq := hid (show j * m + i = t by omega)
          clear ht hq
          go_wp2_with fail
          go_roundw
          case rel =>
            refine ⟨j + 1, l.set t x, by go_num, by omega, hid (HU.out.put htQ x), hid fun a b ha hb => ?_⟩
            rw [← Htq.out, put_at x hlt (by omega) (by rw [Htq.out, HU.out.len]; exact htQ)]
            by_cases e : a = j ∧ b = i
            · rw [if_pos e, e.1, e.2]; exact Ex.out.symm
            · rw [if_neg e]; exact hl.out a b ha (by omega)
          case measure => simp [intOf]; omega
        · obtain rfl : n = j := by omega
          go_wp2_with fail
          go_roundw
          case rel => exact ⟨i + 1, l, by go_num, by omega, HU, hid fun a b ha hb => hl.out a b ha (by omega)⟩
          case measure => simp [intOf]; omega
    · obtain rfl : m = i := by omega
      obtain ⟨o0, o1, o2⟩ := HU.out.box.at3
      have hRr := HR.out.ext HU.out.ext
      obtain ⟨r0, r1, r2⟩ := hRr.at3
      have f0 := hRr.frozen 0
      have f1 := hRr.frozen 1
      have f2 := hRr.frozen 2
      have F := hid (HU.out.fin hRr hR1 (HE.out.trans HU.out.ext) hgw (by omega))
      clear hRr
      go_wp2_with fail
      refine bodyPost_ret (results_cell_row_tmp rfl _ _ gR 25 _ (0, 0) _ rfl F.out.1 Try.underlying25 rfl (by kernel_rfl)) rfl ?_
      have e : l = turnL m n xs := grid_of (by rw [HU.out.len, HQ.out]) fun a b ha hb => hl.out a b ha hb
      exact ⟨_, rfl, e ▸ F.out.2.1, F.out.2.2⟩
end Go.Proofs.Ytdfkojbfgodegaa
/- Package matrix: Left, Mul, One. -/
namespace Go.Proofs.Ytdfkojbfgodegaa
open Go.RowKit Go.Maps

theorem MatOk.turn {p : Int} {m n : Nat} {xs : List Int} (h : MatOk p m n xs) : MatOk p n m (turnL m n xs) :=
  ⟨h.hp, turnL_rng (rightB_true h.hp).1 h.hx m n, h.hn, h.hm, turnL_len m n xs⟩
theorem times_turn (p : Int) (m n : Nat) (xs ys : List Int) : timesL p n m (turnL m n xs) ys = leftL p m n xs ys := by
  unfold timesL leftL
  refine tab_congr fun k hk => dv_congr (fun i hi => ?_) fun _ _ => rfl
  rw [turnL, grid_get _ hk hi]
set_option maxHeartbeats 1000000 in
theorem mxLeft_no (p r c : Int) (v u : Value) (xs ys : List Int) (w : World) (h0 : 0 ≤ p) (h1 : p ≤ 18446744073709551615) (hv : Ints .u64 w v xs) (hx : U64s xs) (hu : Ints .u64 w u ys) (hy : U64s ys) (h : (matB p r c xs && vecB p r ys) = false) :
    Calls Try.prog 39 #[.int .u64 p, u, matV r c v] w (Ret (.tuple #[.slice none 0 0, .int .i64 1]) w) := by
  cases g1 : matB p r c xs
  · have C1 := hid fun (W : World) (hW : Ext w W) => mxTurn_no p r c v xs W h0 h1 (hv.ext hW) hx g1
    obtain ⟨a, cap, rfl, k1, k2, k3⟩ := hv
    clear k3 hu hx hy h g1
    unfold matV noMat at C1
    unfold matV
    go_enter Try.func39, Try.ntmps39
    go_wp2_with (go_at_call 58; refine (C1.out _ (by repeat (first | exact Ext.refl _ | assumption | refine Ext.drew ?_ | refine Ext.drewN ?_ _ | refine Ext.alloc ?_ _ | refine Ext.trans ?_ (by assumption)))).mono ?_; rintro _ w1 ⟨rfl, x1⟩)
    go_ret2
    exact ⟨rfl, Ext.alloc (Ext.trans (by repeat (first | exact Ext.refl _ | assumption | refine Ext.drew ?_ | refine Ext.drewN ?_ _ | refine Ext.alloc ?_ _ | refine Ext.trans ?_ (by assumption))) x1) _⟩
  · rw [g1, Bool.true_and] at h
    obtain ⟨m, n, rfl, rfl, ok⟩ := MatOk.of hx g1
    have C1 := hid fun (W : World) (hW : Ext w W) => mxTurn_yes p m n v xs W ok (hv.ext hW)
    have C2 := hid fun (W : World) (hW : Ext w W) (z : Value) (hz : Ints .u64 W z (turnL m n xs)) => mxTimes_no p n m z u _ ys W h0 h1 hz ok.turn.u64 (hu.ext hW) hy (by rw [h, Bool.and_false])
    obtain ⟨a, cap, rfl, k1, k2, k3⟩ := hv
    clear k3 hu hx hy h g1 ok
    unfold matV at C1 C2
    unfold matV
    go_enter Try.func39, Try.ntmps39
    go_wp2_with (first
      | (go_at_call 58; refine (C1.out _ (by repeat (first | exact Ext.refl _ | assumption | refine Ext.drew ?_ | refine Ext.drewN ?_ _ | refine Ext.alloc ?_ _ | refine Ext.trans ?_ (by assumption)))).mono ?_; rintro _ w1 ⟨u1, rfl, hI, x1⟩; have HI := hid hI; obtain ⟨a1, cap1, rfl, l1, l2, l3⟩ := hI; clear l3; try unfold matV)
      | (go_at_call 37; refine (C2.out _ (Ext.alloc (Ext.trans (by repeat (first | exact Ext.refl _ | assumption | refine Ext.drew ?_ | refine Ext.drewN ?_ _ | refine Ext.alloc ?_ _ | refine Ext.trans ?_ (by assumption))) x1) _) _ (HI.out.alloc _)).mono ?_; rintro _ w2 ⟨rfl, x2⟩))
    go_ret2
    exact ⟨rfl, Ext.trans (Ext.alloc (Ext.trans (by repeat (first | exact Ext.refl _ | assumption | refine Ext.drew ?_ | refine Ext.drewN ?_ _ | refine Ext.alloc ?_ _ | refine Ext.trans ?_ (by assumption))) x1) _) x2⟩
set_option maxHeartbeats 1000000 in
theorem mxLeft_yes (p : Int) (m n : Nat) (v u : Value) (xs ys : List Int) (w : World) (ok : MatOk p m n xs) (hv : Ints .u64 w v xs) (hu : Ints .u64 w u ys) (hy : Rng p ys) (hyl : ys.length = m) :
    Calls Try.prog 39 #[.int .u64 p, u, matV m n v] w (RetV (leftL p m n xs ys) w) := by
  have C1 := hid fun (W : World) (hW : Ext w W) => mxTurn_yes p m n v xs W ok (hv.ext hW)
  have C2 := hid fun (W : World) (hW : Ext w W) (z : Value) (hz : Ints .u64 W z (turnL m n xs)) => times_turn p m n xs ys ▸ mxTimes_yes p n m z u _ ys W ok.turn hz (hu.ext hW) hy hyl
  obtain ⟨a, cap, rfl, k1, k2, k3⟩ := hv
  clear k3 hu hy hyl ok
  unfold matV at C1 C2
  unfold matV
  go_enter Try.func39, Try.ntmps39
  go_wp2_with (first
    | (go_at_call 58; refine (C1.out _ (by repeat (first | exact Ext.refl _ | assumption | refine Ext.drew ?_ | refine Ext.drewN ?_ _ | refine Ext.alloc ?_ _ | refine Ext.trans ?_ (by assumption)))).mono ?_; rintro _ w1 ⟨u1, rfl, hI, x1⟩; have HI := hid hI; obtain ⟨a1, cap1, rfl, l1, l2, l3⟩ := hI; clear l3; try unfold matV)
    | (go_at_call 37; refine (C2.out _ (Ext.alloc (Ext.trans (by repeat (first | exact Ext.refl _ | assumption | refine Ext.drew ?_ | refine Ext.drewN ?_ _ | refine Ext.alloc ?_ _ | refine Ext.trans ?_ (by assumption))) x1) _) _ (HI.out.alloc _)).mono ?_; rintro _ w2 ⟨u2, rfl, hI2, x2⟩; have HI2 := hid hI2; obtain ⟨a2, cap2, rfl, i1, i2, i3⟩ := hI2; clear i3))
  go_ret2
  exact ⟨_, rfl, HI2.out, Ext.trans (Ext.alloc (Ext.trans (by repeat (first | exact Ext.refl _ | assumption | refine Ext.drew ?_ | refine Ext.drewN ?_ _ | refine Ext.alloc ?_ _ | refine Ext.trans ?_ (by assumption))) x1) _) x2⟩

theorem boxesM3 (w : World) (t : TypeId) (A B C : Array Value) :
    Blk (((w.alloc (.cells A t)).alloc (.cells B t)).alloc (.cells C t)) w.heap.size t A ∧ Blk (((w.alloc (.cells A t)).alloc (.cells B t)).alloc (.cells C t)) (w.heap.size + 1) t B ∧
    Blk (((w.alloc (.cells A t)).alloc (.cells B t)).alloc (.cells C t)) (w.heap.size + 1 + 1) t C ∧ Ext w (((w.alloc (.cells A t)).alloc (.cells B t)).alloc (.cells C t)) :=
  ⟨(Blk.new w t A).ext (((Ext.refl _).alloc _).alloc _), (Blk.at_ (by rw [alloc_size])).ext ((Ext.refl _).alloc _), Blk.at_ (by rw [alloc_size, alloc_size]), (((Ext.refl w).alloc _).alloc _).alloc _⟩

end Go.Proofs.Ytdfkojbfgodegaa
/- The document's own answers of layer 12: all 0, a number's digits, matrices that meet. -/
namespace Go.Proofs.Ytdfkojbfgodegaa
open Go.RowKit Go.Maps

/-- are all numbers 0? -/
def zeroB (l : List Int) : Bool := l.all fun x => x == 0
theorem zeroB_iff {l : List Int} : zeroB l = true ↔ ∀ j, j < l.length → l.getD j 0 = 0 := by
  unfold zeroB
  rw [List.all_eq_true]
  constructor
  · intro h j hj
    have := h _ (List.getElem_mem hj)
    simpa [List.getD, hj] using this
  · intro h x hx
    obtain ⟨j, hj, rfl⟩ := List.getElem_of_mem hx
    have := h j hj
    simpa [List.getD, hj] using this
theorem digV_snoc (p : Nat) : ∀ (j N : Nat), digV p N (j + 1) = digV p N j ++ [((N / p ^ j % p : Nat) : Int)]
  | 0, N => by simp [digV]
  | j + 1, N => by
    rw [digV, digV_snoc p j (N / p)]
    show _ :: (digV p (N / p) j ++ _) = (_ :: digV p (N / p) j) ++ _
    rw [Nat.div_div_eq_div_mul, Nat.pow_succ, Nat.mul_comm p]
    rfl
set_option maxRecDepth 100000 in
set_option maxHeartbeats 1000000 in
theorem r12Vector (p N n : Nat) (w : World) (hp : 1 ≤ p ∧ p ≤ 18446744073709551615) (hN : N ≤ 18446744073709551615) (hn : n ≤ 64) :
    Calls Try.prog 21 #[.int .u64 p, .int .u64 N, .int .i64 n] w fun e w' => ∃ v, e = .returned v ∧ w'.ownsRow w.heap.size 22 1 v n ((digV p N n).map (Value.int .u64)) ∧ Ext w w' := by
  obtain ⟨i0, hi, hz0, hz1, hz2⟩ := info_parts info_u64p
  go_enter Try.func21, Try.ntmps21
  go_wp2_with fail
  go_loopw [1, 7, 8] (fun q b i wr => ∃ (j : Nat) (M : Nat), i = .int .i64 j ∧ j ≤ n ∧ q = .int .u64 M ∧ M ≤ 18446744073709551615 ∧ Hid (M = N / p ^ j) ∧ Hid (wr.ownsRow w.heap.size 22 1 b j ((digV p N j).map (Value.int .u64))) ∧ Ext w wr) (fun _ _ i _ => n - (intOf i).toNat)
  case atStart => exact ⟨0, N, rfl, Nat.zero_le _, rfl, hN, hid (by simp), hid (World.ownsRow_nil _ _ _ _), Ext.refl _⟩
  case round =>
    obtain ⟨j, M, rfl, hj, rfl, hM, hMe, ho, hx⟩ := hrel
    rename World => wr
    obtain ⟨ar, cr, er⟩ : ∃ ar cr, _ := by
      obtain ⟨ar, cr, er, -, -⟩ := WRow.of_owns ho.out
      exact ⟨ar, cr, er⟩
    by_cases hlt : j < n
    · obtain ⟨d, ed⟩ : ∃ d, M % p = d := ⟨_, rfl⟩
      obtain ⟨q, eq⟩ : ∃ q, M / p = q := ⟨_, rfl⟩
      have t1 : ((M : Int)).tmod (p : Int) = (d : Int) := by rw [Int.tmod_eq_emod_of_nonneg (by omega), ← ed]; rfl
      have t2 : ((M : Int)).tdiv (p : Int) = (q : Int) := by rw [Int.tdiv_eq_ediv_of_nonneg (by omega), ← eq]; rfl
      have hq : q ≤ M := by rw [← eq]; exact Nat.div_le_self _ _
      have hd : d < p := by rw [← ed]; exact Nat.mod_lt _ (by omega)
      have hp0 : (p : Int) ≠ 0 := by omega
      have hnx := hid (show (digV p N j).map (Value.int .u64) ++ [.int .u64 (d : Int)] = (digV p N (j + 1)).map (Value.int .u64) by rw [digV_snoc, ← hMe.out, ed]; simp)
      have hqe := hid (show q = N / p ^ (j + 1) by rw [← eq, hMe.out, Nat.div_div_eq_div_mul, Nat.pow_succ])
      have hsz := hx.size
      subst er
      clear ed eq
      go_wp2_with (at_builtin; refine wpList_append_own _ rfl _ _ 23 rfl w.heap.size 22 i0 (.int .u64 0) 1 8 Try.underlying23 hi hz0 hz1 hz2 rfl (by decide) _ _ _ rfl (ho.out.alloc _) ⟨wr.heap.size, 0, none⟩ 1 1 [.int .u64 (d : Int)] rfl rfl (cells_new _ _ _ (by simp)) (by simp [Value.oneCell']) (by simp only [maxLen]; omega) (by omega) (by simp; omega) ?_; intro v1 w1 hown1 hgrow1 _)
      go_roundw
      case rel => exact ⟨j + 1, q, by go_num, by omega, by go_num, by omega, hqe, hid (by rw [← hnx.out]; exact hown1), (hx.alloc _).grown hgrow1 (fun k e => (ho.out.lt k e).1)⟩
      case measure => simp [intOf]; omega
    · obtain rfl : j = n := by omega
      subst er
      go_wp2_with fail
      go_ret
      exact ⟨_, rfl, ho.out, hx⟩
/-- three matrices in boxes -/
theorem boxes_3 (w : World) (t : TypeId) (a b c : Array Value) : Blk (((w.alloc (.cells a t)).alloc (.cells b t)).alloc (.cells c t)) w.heap.size t a ∧ Blk (((w.alloc (.cells a t)).alloc (.cells b t)).alloc (.cells c t)) (w.heap.size + 1) t b ∧ Blk (((w.alloc (.cells a t)).alloc (.cells b t)).alloc (.cells c t)) (w.heap.size + 1 + 1) t c ∧ Ext w (((w.alloc (.cells a t)).alloc (.cells b t)).alloc (.cells c t)) := by
  refine ⟨((Blk.new w t a).ext ((Ext.refl _).alloc _)).ext ((Ext.refl _).alloc _), ?_, ?_, (((Ext.refl w).alloc _).alloc _).alloc _⟩
  · have := (Blk.new (w.alloc (.cells a t)) t b).ext ((Ext.refl _).alloc (.cells c t))
    rwa [alloc_size] at this
  · have := Blk.new ((w.alloc (.cells a t)).alloc (.cells b t)) t c
    rwa [alloc_size, alloc_size] at this
/-- do they meet? -/
def meetB (p ra ca rb cb rc cc : Int) (xs ys zs : List Int) : Bool := matB p ra ca xs && (matB p rb cb ys && (matB p rc cc zs && (decide (ca = rb) && (decide (rc = ra) && decide (cc = cb)))))
end Go.Proofs.Ytdfkojbfgodegaa
/- The document's own answer of layer 5 to a product of matrices: Mul. -/
namespace Go.Proofs.Ytdfkojbfgodegaa
open Go.RowKit Go.Maps

/-- four boxes, one behind the other -/
theorem boxes4 (w : World) (t : TypeId) (A B C D : Array Value) :
    Blk ((((w.alloc (.cells A t)).alloc (.cells B t)).alloc (.cells C t)).alloc (.cells D t)) w.heap.size t A ∧ Blk ((((w.alloc (.cells A t)).alloc (.cells B t)).alloc (.cells C t)).alloc (.cells D t)) (w.heap.size + 1) t B ∧
    Blk ((((w.alloc (.cells A t)).alloc (.cells B t)).alloc (.cells C t)).alloc (.cells D t)) (w.heap.size + 1 + 1) t C ∧ Blk ((((w.alloc (.cells A t)).alloc (.cells B t)).alloc (.cells C t)).alloc (.cells D t)) (w.heap.size + 1 + 1 + 1) t D ∧
    Ext w ((((w.alloc (.cells A t)).alloc (.cells B t)).alloc (.cells C t)).alloc (.cells D t)) :=
  ⟨(Blk.new w t A).ext ((((Ext.refl _).alloc _).alloc _).alloc _), (Blk.at_ (by rw [alloc_size])).ext (((Ext.refl _).alloc _).alloc _), (Blk.at_ (by rw [alloc_size, alloc_size])).ext ((Ext.refl _).alloc _), Blk.at_ (by rw [alloc_size, alloc_size, alloc_size]), ((((Ext.refl w).alloc _).alloc _).alloc _).alloc _⟩
/-- a call's own world, by its boxes alone -/
theorem at_name {α : Type} (x : α) : ∃ y, x = y := ⟨_, rfl⟩

end Go.Proofs.Ytdfkojbfgodegaa
