/- What the texts Mat3, Mx1, Mx2, Mat4, Ref07, CupQ, CupR, UsL show, in one text. -/
import Derived.Test.YtijpeepdedfhoaaGreatBun09
import Derived.Test.YtijpeepdedfhoaaGreatStep
import Derived.Test.YtijpeepdedfhoaaGreatBun10
import Derived.Deep.RegionLaw
import Derived.Test.YtijpeepdedfhoaaGreatBun06
import Derived.Laws.ResultCell
import Derived.Test.YtijpeepdedfhoaaGreatBun08
import Derived.Test.YtijpeepdedfhoaaGreatBun17
import Derived.Deep.RegionHeld3
import Derived.Test.YtijpeepdedfhoaaGreatBun16
import Derived.Test.YtijpeepdedfhoaaGreatBun04
/- The document's own answers of layer 5 that make matrices: Turn, Mul. -/
namespace Go.Proofs.YtijpeepdedfhoaaGreat
open Go.RowKit Go.Maps

/-- what a call answers: a matrix -/
def RetM (r c : Int) (l : List Int) (w : World) (e : Ending) (w' : World) : Prop := ∃ u, e = .returned (matV r c u) ∧ Ints .u64 w' u l ∧ Ext w w'
/-- a matrix that is built: its box, and its cells so far -/
structure Bld (w0 w : World) (h base : Nat) (r c : Int) (rv : Value) (t : Nat) (G : Nat → Int) : Prop where
  box : Blk w h 25 #[.int .i64 r, .int .i64 c, rv]
  own : w.ownsRow base 22 1 rv t ((tab t G).map (Value.int .u64))
  ext : Ext w0 w
  hb : w0.heap.size ≤ base
  hh : w0.heap.size ≤ h
theorem Bld.ext' {w0 w w' : World} {h base : Nat} {r c : Int} {rv : Value} {t : Nat} {G : Nat → Int} (b : Bld w0 w h base r c rv t G) (y : Ext w w') : Bld w0 w' h base r c rv t G :=
  ⟨b.box.ext y, ownsRow_ext b.own y, b.ext.trans y, b.hb, b.hh⟩
/-- a number is appended, and the box told -/
theorem Bld.next {w0 w w' : World} {h base : Nat} {r c : Int} {rv v' : Value} {t : Nat} {G : Nat → Int} (b : Bld w0 w h base r c rv t G) (hown : w'.ownsRow base 22 1 v' (t + 1) ((tab (t + 1) G).map (Value.int .u64))) (hg : w.grownBy w' rv.ownBlock) :
    Bld w0 (w'.setCell ⟨h, 2, none⟩ v') h base r c v' (t + 1) G := by
  have hne : rv.ownBlock ≠ some h := by
    rcases ownsRow_blk b.own b.box (by decide) with e | e
    · rw [e]; simp
    · exact e
  have hb := b.box.grown hg hne
  have hne2 : v'.ownBlock ≠ some h := by
    rcases ownsRow_blk hown hb (by decide) with e | e
    · rw [e]; simp
    · exact e
  exact ⟨hb.set_ 2 v', hown.kept (setCell_grown _ _ _) (.inr hne2), (b.ext.grown hg fun k e => Nat.le_trans b.hb (b.own.lt k e).1).setCell b.hh _, b.hb, b.hh⟩
theorem Bld.box' {w0 w w' : World} {h base : Nat} {r c : Int} {rv : Value} {t : Nat} {G : Nat → Int} (b : Bld w0 w h base r c rv t G) (hg : w.grownBy w' rv.ownBlock) : w'.cell? ⟨h, 2, none⟩ = some rv ∧ w'.frozen? ⟨h, 2, none⟩ = false := by
  have hne : rv.ownBlock ≠ some h := by
    rcases ownsRow_blk b.own b.box (by decide) with e | e
    · rw [e]; simp
    · exact e
  exact ⟨(b.box.grown hg hne).cell 2, (b.box.grown hg hne).frozen 2⟩
/-- a box is told its three cells -/
theorem own_set3 {w : World} {base g n : Nat} {v : Value} {xs : List Int} {cs : Array Value} (h : w.ownsRow base 22 1 v n (xs.map (Value.int .u64))) (hB : Blk w g 25 cs) (a b c : Value) :
    Ints .u64 (((w.setCell ⟨g, 0, none⟩ a).setCell ⟨g, 1, none⟩ b).setCell ⟨g, 2, none⟩ c) v xs :=
  own_ints (own_set (own_set (own_set h hB (by decide) 0 a) (hB.set_ 0 a) (by decide) 1 b) ((hB.set_ 0 a).set_ 1 b) (by decide) 2 c)
/-- other boxes stay -/
theorem Bld.other {w0 w w' : World} {h base g : Nat} {r c : Int} {rv v' : Value} {t : Nat} {G : Nat → Int} {ty : TypeId} {cs : Array Value} (b : Bld w0 w h base r c rv t G) (hB : Blk w g ty cs) (hty : 22 ≠ ty) (hgh : g ≠ h) (hg : w.grownBy w' rv.ownBlock) :
    Blk (w'.setCell ⟨h, 2, none⟩ v') g ty cs := by
  have hne : rv.ownBlock ≠ some g := by
    rcases ownsRow_blk b.own hB hty with e | e
    · rw [e]; simp
    · exact e
  exact (hB.grown hg hne).grown (setCell_grown _ _ _) (fun e => hgh (by injection e with e; exact e.symm))
theorem Blk.at3 {w : World} {g : Nat} {t : TypeId} {a b c : Value} (h : Blk w g t #[a, b, c]) : w.cell? ⟨g, 0, none⟩ = some a ∧ w.cell? ⟨g, 1, none⟩ = some b ∧ w.cell? ⟨g, 2, none⟩ = some c :=
  ⟨h.cell 0, h.cell 1, h.cell 2⟩

end Go.Proofs.YtijpeepdedfhoaaGreat
/- Package matrix: sides, vectors, rows, new matrices. -/
namespace Go.Proofs.YtijpeepdedfhoaaGreat
open Go.RowKit Go.Maps

theorem results_cell_row_tmp {P : Program} {fn : Func} {p u : Tmp} {ty : TypeId} (h : fn.results = #[.cell p ty, .tmp u]) (tmps : Array Value) (w : World) (g : Nat) (t : TypeId) (cs : Array Value) (fr : Nat × Nat) (d : TypeDesc)
    (hp : tmps.getD p undef = .pointer (some ⟨g, 0, none⟩)) (hg : w.heap[g]? = some (.cells cs t fr))
    (hu : P.underlying ty = some d) (hd : (match d with | .struct _ | .array _ _ => true | _ => false) = true) (hi : (P.info? ty).map (·.size) = some cs.size) :
    (results fn tmps).run P w = .ok (.tuple #[.agg cs, tmps.getD u undef]) w := by
  have hp' : tmps[p]?.getD undef = .pointer (some ⟨g, 0, none⟩) := by simpa using hp
  simp [results, h, hp', asAddr, run_loadVar_row w g t ty cs fr d hg hu hd hi, Result.andThen]

/-- may it be a side? -/
def sideB (n : Int) : Bool := decide (1 ≤ n ∧ n ≤ 64)
theorem mxSide (n : Int) (w : World) : Calls Tryz.prog 70 #[.int .i64 n] w fun e w' => e = .returned (.bool (sideB n)) ∧ w = w' := by
  by_cases h : 1 ≤ n
  · by_cases h' : n ≤ 64
    all_goals
      go_enter Tryz.func70, Tryz.ntmps70
      go_wp2
      go_ret
      exact ⟨ret_bool (by simp [sideB]; omega), rfl⟩
  · go_enter Tryz.func70, Tryz.ntmps70
    go_wp2
    go_ret
    exact ⟨ret_bool (by simp [sideB]; omega), rfl⟩
theorem mxSides (r c : Int) (w : World) : Calls Tryz.prog 29 #[.int .i64 r, .int .i64 c] w fun e w' => e = .returned (.bool (sideB r && sideB c)) ∧ w = w' := by
  cases hB : sideB r
  · go_enter Tryz.func29, Tryz.ntmps29
    go_wp2_with (go_at_call 70; refine (mxSide _ _).mono ?_; rintro _ _ ⟨rfl, rfl⟩)
    go_ret
    exact ⟨rfl, rfl⟩
  · go_enter Tryz.func29, Tryz.ntmps29
    go_wp2_with (go_at_call 70; refine (mxSide _ _).mono ?_; rintro _ _ ⟨rfl, rfl⟩)
    go_ret
    exact ⟨ret_bool (by simp), rfl⟩
/-- a vector of so many numbers? -/
def vecB (p many : Int) (xs : List Int) : Bool := decide ((xs.length : Int) = many) && hasB p xs
theorem mxVector (p many : Int) (v : Value) (xs : List Int) (w : World) (h0 : 0 ≤ p) (h1 : p ≤ 18446744073709551615) (hv : Ints .u64 w v xs) (hx : U64s xs) :
    Calls Tryz.prog 90 #[.int .u64 p, v, .int .i64 many] w fun e w' => e = .returned (.bool (vecB p many xs)) ∧ w = w' := by
  have H := hid (has_any p v xs w h0 h1 hv hx)
  obtain ⟨B, hB⟩ : ∃ B, hasB p xs = B := ⟨_, rfl⟩
  unfold vecB
  rw [hB] at H ⊢
  obtain ⟨a, cap, rfl, k1, k2, k3⟩ := hv
  clear k3 hB hx
  by_cases e : (xs.length : Int) = many
  · have b : ((xs.length : Int) == many) = true := by simp [e]
    rw [decide_eq_true e]
    clear e
    go_enter Tryz.func90, Tryz.ntmps90
    go_wp2_with (go_at_call 30; refine H.out.mono ?_; rintro _ _ ⟨rfl, rfl⟩)
    go_ret
    exact ⟨ret_bool (by simp), rfl⟩
  · have b : ((xs.length : Int) == many) = false := by simp [e]
    rw [decide_eq_false e]
    clear e
    go_enter Tryz.func90, Tryz.ntmps90
    go_wp2_with fail
    go_ret
    exact ⟨rfl, rfl⟩
set_option maxHeartbeats 400000 in
theorem mxRow (r c : Int) (n i b off len cap : Nat) (w : World) (hc : c = n) (hn : 1 ≤ n ∧ n ≤ 64) (hi : i ≤ 64) (h1 : i * n + n ≤ cap) (h2 : cap ≤ 9223372036854775807) :
    Calls Tryz.prog 67 #[matV r c (.slice (some ⟨b, off, none⟩) len cap), .int .i64 i] w (Ret (.slice (some ⟨b, off + i * n, none⟩) n (cap - i * n)) w) := by
  subst hc
  obtain ⟨q, hq⟩ : ∃ q, i * n = q := ⟨_, rfl⟩
  have hqb : q ≤ 4096 := by rw [← hq]; exact Nat.mul_le_mul hi hn.2
  have hqi : (i : Int) * (n : Int) = (q : Int) := by rw [← hq]; push_cast; rfl
  have hqs : ((i : Int) + 1) * (n : Int) = ((q + n : Nat) : Int) := by rw [Int.add_mul, hqi]; push_cast; omega
  rw [hq] at h1 ⊢
  obtain ⟨m, hm⟩ : ∃ m, q + n = m := ⟨_, rfl⟩
  rw [hm] at hqs h1
  have e : m - q = n := by omega
  have hs := fun W => slice_run b off len cap q m (by omega) h1 (by omega) W
  have hs' := fun W => slice_run' b off len cap q m (by omega) h1 (by omega) W
  rw [e] at hs hs'
  clear hq e
  unfold matV
  go_enter Tryz.func67, Tryz.ntmps67
  go_wp2_with fail
  go_ret
  exact ⟨rfl, (by repeat (first | exact Ext.refl _ | assumption | refine Ext.drew ?_ | refine Ext.drewN ?_ _ | refine Ext.alloc ?_ _ | refine Ext.trans ?_ (by assumption)))⟩
set_option maxHeartbeats 400000 in
theorem mxNoughts (r c : Nat) (w : World) (hr : r ≤ 64) (hc : c ≤ 64) :
    Calls Tryz.prog 66 #[.int .i64 r, .int .i64 c] w fun e w' => ∃ g, e = .returned (matV r c (.slice (some ⟨g, 0, none⟩) (r * c) (r * c))) ∧ w.heap.size ≤ g ∧ WRow w' g 0 (List.replicate (r * c) 0) ∧ Ext w w' := by
  obtain ⟨q, hq⟩ : ∃ q, r * c = q := ⟨_, rfl⟩
  have hqi : (r : Int) * (c : Int) = (q : Int) := by rw [← hq]; push_cast; rfl
  have hqb : q ≤ 4096 := by rw [← hq]; exact Nat.mul_le_mul hr hc
  have hmk := make_ints (P := Tryz.prog) 23 22 .u64 8 (by omega) (by kernel_rfl) (by kernel_rfl) q q (Nat.le_refl _) (by omega)
  rw [hq]
  clear hq
  unfold matV
  go_enter Tryz.func66, Tryz.ntmps66
  go_wp2_with fail
  refine bodyPost_ret (results_cell_row rfl _ _ w.heap.size 25 #[.int .i64 (r : Int), .int .i64 (c : Int), .slice (some ⟨w.heap.size + 1, 0, none⟩) q q] (0, 0) _ rfl (Blk.ext (Blk.new w 25 _) ((Ext.refl _).alloc _)) Tryz.underlying25 rfl (by kernel_rfl)) rfl ?_
  exact ⟨w.heap.size + 1, rfl, by omega, WRow.made (by rw [alloc_size]), (by repeat (first | exact Ext.refl _ | assumption | refine Ext.drew ?_ | refine Ext.drewN ?_ _ | refine Ext.alloc ?_ _ | refine Ext.trans ?_ (by assumption)))⟩
end Go.Proofs.YtijpeepdedfhoaaGreat
/- Package matrix: Right, Times. -/
namespace Go.Proofs.YtijpeepdedfhoaaGreat
open Go.RowKit Go.Maps

theorem mxRight (p r c : Int) (v : Value) (xs : List Int) (w : World) (h0 : 0 ≤ p) (h1 : p ≤ 18446744073709551615) (hv : Ints .u64 w v xs) (hx : U64s xs) :
    Calls Tryz.prog 9 #[.int .u64 p, matV r c v] w (Ret (.bool (matB p r c xs)) w) := by
  have hh := fun (W : World) (hW : Ext w W) => has_any p v xs W h0 h1 (hv.ext hW) hx
  obtain ⟨R, hR⟩ : ∃ R, matB p r c xs = R := ⟨_, rfl⟩
  rw [hR]
  unfold matB at hR
  obtain ⟨B, hB⟩ : ∃ B, hasB p xs = B := ⟨_, rfl⟩
  rw [hB] at hR hh
  obtain ⟨a, cap, rfl, hc1, hc2, hc⟩ := hv
  have Hh := hid hh
  clear hB hh hc hx
  unfold matV
  by_cases g1 : 1 ≤ r ∧ r ≤ 64
  · rw [decide_eq_true g1, Bool.true_and] at hR
    have s1 : sideB r = true := decide_eq_true g1
    by_cases g2 : 1 ≤ c ∧ c ≤ 64
    · rw [decide_eq_true g2, Bool.true_and] at hR
      have s2 : sideB c = true := decide_eq_true g2
      have q1 : 0 ≤ r * c := Int.mul_nonneg (by omega) (by omega)
      have q2 : r * c ≤ 64 * 64 := Int.mul_le_mul g1.2 g2.2 (by omega) (by omega)
      obtain ⟨q, hq⟩ : ∃ q, r * c = q := ⟨_, rfl⟩
      rw [hq] at hR q1 q2
      clear g1 g2
      by_cases g5 : (xs.length : Int) = q
      · rw [decide_eq_true g5, Bool.true_and] at hR
        subst hR
        have b5 : ((xs.length : Int) == q) = true := by simp [g5]
        clear g5
        go_enter Tryz.func9, Tryz.ntmps9
        go_wp2_with (first
          | (go_at_call 29; refine (mxSides _ _ _).mono ?_; rintro _ _ ⟨rfl, rfl⟩)
          | (go_at_call 30; refine (Hh.out _ (by repeat (first | exact Ext.refl _ | assumption | refine Ext.drew ?_ | refine Ext.drewN ?_ _ | refine Ext.alloc ?_ _ | refine Ext.trans ?_ (by assumption)))).mono ?_; rintro _ _ ⟨rfl, rfl⟩))
        go_ret
        exact ⟨rfl, (by repeat (first | exact Ext.refl _ | assumption | refine Ext.drew ?_ | refine Ext.drewN ?_ _ | refine Ext.alloc ?_ _ | refine Ext.trans ?_ (by assumption)))⟩
      · rw [decide_eq_false g5, Bool.false_and] at hR
        subst hR
        have b5 : ((xs.length : Int) == q) = false := by simp [g5]
        clear g5
        go_enter Tryz.func9, Tryz.ntmps9
        go_wp2_with (go_at_call 29; refine (mxSides _ _ _).mono ?_; rintro _ _ ⟨rfl, rfl⟩)
        go_ret
        exact ⟨rfl, (by repeat (first | exact Ext.refl _ | assumption | refine Ext.drew ?_ | refine Ext.drewN ?_ _ | refine Ext.alloc ?_ _ | refine Ext.trans ?_ (by assumption)))⟩
    · rw [decide_eq_false g2, Bool.false_and] at hR
      subst hR
      have s2 : sideB c = false := decide_eq_false g2
      clear g1 g2
      go_enter Tryz.func9, Tryz.ntmps9
      go_wp2_with (go_at_call 29; refine (mxSides _ _ _).mono ?_; rintro _ _ ⟨rfl, rfl⟩)
      go_ret
      exact ⟨rfl, (by repeat (first | exact Ext.refl _ | assumption | refine Ext.drew ?_ | refine Ext.drewN ?_ _ | refine Ext.alloc ?_ _ | refine Ext.trans ?_ (by assumption)))⟩
  · rw [decide_eq_false g1, Bool.false_and] at hR
    subst hR
    have s1 : sideB r = false := decide_eq_false g1
    clear g1
    go_enter Tryz.func9, Tryz.ntmps9
    go_wp2_with (go_at_call 29; refine (mxSides _ _ _).mono ?_; rintro _ _ ⟨rfl, rfl⟩)
    go_ret
    exact ⟨rfl, (by repeat (first | exact Ext.refl _ | assumption | refine Ext.drew ?_ | refine Ext.drewN ?_ _ | refine Ext.alloc ?_ _ | refine Ext.trans ?_ (by assumption)))⟩

/-- a right matrix of m rows and n columns, all told over Nat -/
structure MatOk (p : Int) (m n : Nat) (xs : List Int) : Prop where
  hp : rightB p = true
  hx : Rng p xs
  hm : 1 ≤ m ∧ m ≤ 64
  hn : 1 ≤ n ∧ n ≤ 64
  hl : xs.length = m * n
theorem MatOk.u64 {p : Int} {m n : Nat} {xs : List Int} (h : MatOk p m n xs) : U64s xs := h.hx.u64 (rightB_true h.hp).2
theorem MatOk.b {p : Int} {m n : Nat} {xs : List Int} (h : MatOk p m n xs) : matB p m n xs = true := (matB_iff h.u64).2 ⟨h.hp, h.hx, m, n, rfl, rfl, h.hm.1, h.hm.2, h.hn.1, h.hn.2, h.hl⟩
theorem MatOk.of {p r c : Int} {xs : List Int} (hx : U64s xs) (h : matB p r c xs = true) : ∃ m n : Nat, r = m ∧ c = n ∧ MatOk p m n xs := by
  obtain ⟨h1, h2, m, n, rfl, rfl, h3, h4, h5, h6, h7⟩ := (matB_iff hx).1 h
  exact ⟨m, n, rfl, rfl, h1, h2, ⟨h3, h4⟩, ⟨h5, h6⟩, h7⟩
theorem MatOk.pos {p : Int} {m n : Nat} {xs : List Int} (h : MatOk p m n xs) : 0 < xs.length := by rw [h.hl]; exact Nat.mul_pos h.hm.1 h.hn.1
theorem MatOk.at_ {p : Int} {m n : Nat} {xs : List Int} (h : MatOk p m n xs) {i : Nat} (hi : i < m) : i * n + n ≤ xs.length := by
  rw [h.hl, ← Nat.succ_mul]; exact Nat.mul_le_mul_right _ hi
/-- row i -/
def piece (xs : List Int) (i n : Nat) : List Int := (xs.drop (i * n)).take n
theorem piece_len {xs : List Int} {i n : Nat} (h : i * n + n ≤ xs.length) : (piece xs i n).length = n := by simp [piece]; omega
theorem piece_get (xs : List Int) (i n k : Nat) (h : k < n) : (piece xs i n).getD k 0 = xs.getD (i * n + k) 0 := sub_get xs _ n k h
theorem piece_rng {p : Int} {xs : List Int} (h : Rng p xs) (i n : Nat) : Rng p (piece xs i n) := fun x hx => h x (List.mem_of_mem_drop (List.mem_of_mem_take hx))
theorem piece_tab {xs : List Int} {i n : Nat} (h : i * n + n ≤ xs.length) : piece xs i n = tab n fun k => xs.getD (i * n + k) 0 := tab_of (piece_len h) fun k hk => piece_get xs i n k hk
theorem dot_piece {p : Int} {xs ys : List Int} {i n : Nat} (h : i * n + n ≤ xs.length) (hy : ys.length = n) : dotZ (piece xs i n) ys % p = dv p n (fun k => xs.getD (i * n + k) 0) fun k => ys.getD k 0 := by
  rw [dv_dotZ (piece_len h) hy]
  exact dv_congr (fun k hk => piece_get xs i n k hk) fun _ _ => rfl
theorem vecB_yes {p : Int} {n : Nat} {ys : List Int} (hp : rightB p = true) (hy : Rng p ys) (hl : ys.length = n) : vecB p n ys = true := by
  unfold vecB
  rw [hl, hy.has hp, decide_eq_true rfl]; rfl
theorem vecB_true {p c : Int} {ys : List Int} (hu : U64s ys) (h : vecB p c ys = true) : rightB p = true ∧ Rng p ys ∧ (ys.length : Int) = c := by
  unfold vecB at h
  rw [Bool.and_eq_true, decide_eq_true_eq] at h
  obtain ⟨h5, h6⟩ := hasB_true h.2
  exact ⟨h5, fun x hx' => ⟨(hu x hx').1, h6 x hx'⟩, h.1⟩
/-- what a call answers: numbers, and that all is well -/
def RetV (l : List Int) (w : World) (e : Ending) (w' : World) : Prop := ∃ v, e = .returned (.tuple #[v, .int .i64 0]) ∧ Ints .u64 w' v l ∧ Ext w w'
/-- .. a matrix -/
def RetN (r c : Int) (l : List Int) (w : World) (e : Ending) (w' : World) : Prop := ∃ u, e = .returned (.tuple #[matV r c u, .int .i64 0]) ∧ Ints .u64 w' u l ∧ Ext w w'

theorem mxTimes_no (p r c : Int) (v u : Value) (xs ys : List Int) (w : World) (h0 : 0 ≤ p) (h1 : p ≤ 18446744073709551615) (hv : Ints .u64 w v xs) (hx : U64s xs) (hu : Ints .u64 w u ys) (hy : U64s ys) (h : (matB p r c xs && vecB p c ys) = false) :
    Calls Tryz.prog 52 #[.int .u64 p, matV r c v, u] w (Ret (.tuple #[.slice none 0 0, .int .i64 1]) w) := by
  have C1 := hid fun (W : World) (hW : Ext w W) => mxRight p r c v xs W h0 h1 (hv.ext hW) hx
  have C2 := hid fun (W : World) (hW : Ext w W) => mxVector p c u ys W h0 h1 (hu.ext hW) hy
  obtain ⟨a, cap, rfl, k1, k2, k3⟩ := hv
  clear k3 hu hx hy
  have hbox := hid (box3 w 25 (.int .i64 r) (.int .i64 c) (.slice a xs.length cap))
  unfold matV at C1
  unfold matV
  cases g1 : matB p r c xs
  · rw [g1] at C1
    clear h g1
    go_enter Tryz.func52, Tryz.ntmps52
    go_wp2_with (go_at_call 9; refine (C1.out _ (by repeat (first | exact Ext.refl _ | assumption | refine Ext.drew ?_ | refine Ext.drewN ?_ _ | refine Ext.alloc ?_ _ | refine Ext.trans ?_ (by assumption)))).mono ?_; rintro _ w1 ⟨rfl, x1⟩)
    go_ret2
    exact ⟨rfl, Ext.trans (by repeat (first | exact Ext.refl _ | assumption | refine Ext.drew ?_ | refine Ext.drewN ?_ _ | refine Ext.alloc ?_ _ | refine Ext.trans ?_ (by assumption))) x1⟩
  · rw [g1, Bool.true_and] at h
    rw [g1] at C1
    rw [h] at C2
    clear h g1
    go_enter Tryz.func52, Tryz.ntmps52
    go_wp2_with (first
      | (go_at_call 9; refine (C1.out _ (by repeat (first | exact Ext.refl _ | assumption | refine Ext.drew ?_ | refine Ext.drewN ?_ _ | refine Ext.alloc ?_ _ | refine Ext.trans ?_ (by assumption)))).mono ?_; rintro _ w1 ⟨rfl, x1⟩; obtain ⟨b0, b1, b2⟩ := hbox.out w1 x1)
      | (go_at_call 90; refine (C2.out _ (Ext.trans (by repeat (first | exact Ext.refl _ | assumption | refine Ext.drew ?_ | refine Ext.drewN ?_ _ | refine Ext.alloc ?_ _ | refine Ext.trans ?_ (by assumption))) x1)).mono ?_; rintro _ _ ⟨rfl, rfl⟩))
    go_ret2
    exact ⟨rfl, Ext.trans (by repeat (first | exact Ext.refl _ | assumption | refine Ext.drew ?_ | refine Ext.drewN ?_ _ | refine Ext.alloc ?_ _ | refine Ext.trans ?_ (by assumption))) x1⟩

set_option maxRecDepth 100000 in
set_option maxHeartbeats 1000000 in
theorem mxTimes_yes (p : Int) (m n : Nat) (v u : Value) (xs ys : List Int) (w : World) (ok : MatOk p m n xs) (hv : Ints .u64 w v xs) (hu : Ints .u64 w u ys) (hy : Rng p ys) (hyl : ys.length = n) :
    Calls Tryz.prog 52 #[.int .u64 p, matV m n v, u] w (RetV (timesL p m n xs ys) w) := by
  have hp2 := rightB_true ok.hp
  have C1 := hid fun (W : World) (hW : Ext w W) => mxRight p m n v xs W (by omega) (by omega) (hv.ext hW) ok.u64
  have C2 := hid fun (W : World) (hW : Ext w W) => mxVector p n u ys W (by omega) (by omega) (hu.ext hW) (hy.u64 hp2.2)
  rw [ok.b] at C1
  rw [vecB_yes ok.hp hy hyl] at C2
  have Ok := hid ok; have Hv := hid hv; have Hu := hid hu; have Hy := hid hy; have Hyl := hid hyl
  have hm := ok.hm; have hn := ok.hn
  obtain ⟨a, cap, rfl, k1, k2, k3⟩ := hv
  obtain ⟨b, off, rfl, hb, k4⟩ := k3 ok.pos
  have hcap := hid fun (i : Nat) (h : i < m) => Nat.le_trans (ok.at_ h) k1
  clear k3 k4 hu hy hyl ok
  obtain ⟨F, hF⟩ : ∃ F : Nat → Int, (fun i => dv p n (fun k => xs.getD (i * n + k) 0) fun k => ys.getD k 0) = F := ⟨_, rfl⟩
  have HF := hid (fun i => (congrFun hF i : dv p n (fun k => xs.getD (i * n + k) 0) (fun k => ys.getD k 0) = F i))
  unfold timesL
  rw [hF]
  clear hF
  have hmk := make_ints (P := Tryz.prog) 23 22 .u64 8 (by omega) (by kernel_rfl) (by kernel_rfl) m m (Nat.le_refl _) (by omega)
  have hbox := hid (box3 w 25 (.int .i64 (m : Int)) (.int .i64 (n : Int)) (.slice (some ⟨b, off, none⟩) xs.length cap))
  have hx0 : Ext w (w.alloc (.cells #[.int .i64 (m : Int), .int .i64 (n : Int), .slice (some ⟨b, off, none⟩) xs.length cap] 25)) := (Ext.refl w).alloc _
  have hrl := hid (List.length_replicate (n := m) (a := (0 : Int)))
  unfold matV at C1
  unfold matV
  go_enter Tryz.func52, Tryz.ntmps52
  go_wp2_with (first
    | (go_at_call 9; refine (C1.out _ (by repeat (first | exact Ext.refl _ | assumption | refine Ext.drew ?_ | refine Ext.drewN ?_ _ | refine Ext.alloc ?_ _ | refine Ext.trans ?_ (by assumption)))).mono ?_; rintro _ w1 ⟨rfl, x1⟩; obtain ⟨b0, b1, b2⟩ := hbox.out w1 x1)
    | (go_at_call 90; refine (C2.out _ (hx0.trans x1)).mono ?_; rintro _ _ ⟨rfl, rfl⟩))
  have hrow := hid (WRow.made (w := w1) (t := 22) (n := m) rfl)
  obtain ⟨g, hg⟩ : ∃ g, w1.heap.size = g := ⟨_, rfl⟩
  have hgw : w1.heap.size ≤ g := by omega
  obtain ⟨w2, hw2⟩ : ∃ w2, w1.alloc (.cells (madeCells #[Value.int .u64 0] m) 22) = w2 := ⟨_, rfl⟩
  have hx2 : Ext w1 w2 := hw2 ▸ (Ext.refl w1).alloc _
  rw [hg, hw2] at hrow
  rw [hg, hw2]
  clear hg hw2 hmk b0 b1 b2
  go_loopw [27] (fun i wr => ∃ (k : Nat) (l : List Int), i = .int .i64 k ∧ k ≤ m ∧ Hid (l.length = m) ∧ Hid (∀ j, l.getD j 0 = if j < k then F j else 0) ∧ Hid (WRow wr g 0 l) ∧ Ext w1 wr) (fun i _ => m - (intOf i).toNat)
  case atStart => exact ⟨0, _, rfl, Nat.zero_le _, hrl, hid (fun j => by rw [replicate_get]; simp), hrow, hx2⟩
  case round =>
    obtain ⟨k, l, rfl, hk, hln, hl2, Hrw, hxw⟩ := hrel
    clear hx2
    obtain ⟨b0, b1, b2⟩ := hbox.out wr (x1.trans hxw)
    by_cases hlt : k < m
    · have hck := hcap.out k hlt
      have hfk := HF.out k
      obtain ⟨z, hz⟩ : ∃ z, F k = z := ⟨_, rfl⟩
      rw [hz] at hfk
      have hdot := hid ((dot_piece (p := p) (Ok.out.at_ hlt) Hyl.out).trans hfk)
      have Hz := hid hz
      clear hz hfk
      go_wp2_with fail
      refine (mxRow (m : Int) (n : Int) n k b off xs.length cap wr rfl hn (by omega) hck k2).mono ?_
      rintro _ w3 ⟨rfl, x3⟩
      go_wp2_with fail
      refine (dot_as p z _ u (piece xs k n) ys w3 ((Hv.out.ext ((hx0.trans x1).trans (hxw.trans x3))).sub (k * n) n (Ok.out.at_ hlt) hn.1) (Hu.out.ext ((hx0.trans x1).trans (hxw.trans x3))) ((piece_rng Ok.out.hx k n).u64 hp2.2) (Hy.out.u64 hp2.2) (by rw [piece_len (Ok.out.at_ hlt), Hyl.out]) ((piece_rng Ok.out.hx k n).has Ok.out.hp) (Hy.out.has Ok.out.hp) hdot.out).mono ?_
      rintro _ w4 ⟨rfl, x4⟩
      have g2 := ((Hrw.out.ext (x3.trans x4)).2 k (by rw [hln.out]; omega)).1
      have f2 := ((Hrw.out.ext (x3.trans x4)).2 k (by rw [hln.out]; omega)).2
      rw [Nat.zero_add] at g2 f2
      go_wp2_with fail
      go_roundw
      case rel =>
        have hs := (Hrw.out.ext (x3.trans x4)).set_ (i := k) (by rw [hln.out]; omega) z
        rw [Nat.zero_add] at hs
        refine ⟨k + 1, l.set k z, by go_num, by omega, hid (by rw [List.length_set]; exact hln.out), hid (fun j => ?_), hid hs, (hxw.trans (x3.trans x4)).setCell (p := ⟨g, k, none⟩) hgw _⟩
        rw [set_get l k j z (by rw [hln.out]; omega), hl2.out]
        by_cases e : k = j
        · subst e
          rw [if_pos rfl, if_pos (by omega), Hz.out]
        · rw [if_neg e]
          by_cases e2 : j < k
          · rw [if_pos e2, if_pos (by omega)]
          · rw [if_neg e2, if_neg (by omega)]
      case measure => simp [intOf]; omega
    · obtain rfl : m = k := by omega
      go_wp2_with fail
      go_ret2
      have e : l = tab m F := tab_of hln.out fun j hj => by rw [hl2.out, if_pos hj]
      exact ⟨_, rfl, e ▸ Hrw.out.ints' hln.out (Nat.le_refl _) (by omega), hx0.trans (x1.trans hxw)⟩
end Go.Proofs.YtijpeepdedfhoaaGreat
/- The document's own answer of layer 5 to a product of matrices: Mul. -/
namespace Go.Proofs.YtijpeepdedfhoaaGreat
open Go.RowKit Go.Maps

/-- four boxes, one behind the other -/
theorem boxes4 (w : World) (t : TypeId) (A B C D : Array Value) :
    Blk ((((w.alloc (.cells A t)).alloc (.cells B t)).alloc (.cells C t)).alloc (.cells D t)) w.heap.size t A ∧ Blk ((((w.alloc (.cells A t)).alloc (.cells B t)).alloc (.cells C t)).alloc (.cells D t)) (w.heap.size + 1) t B ∧
    Blk ((((w.alloc (.cells A t)).alloc (.cells B t)).alloc (.cells C t)).alloc (.cells D t)) (w.heap.size + 1 + 1) t C ∧ Blk ((((w.alloc (.cells A t)).alloc (.cells B t)).alloc (.cells C t)).alloc (.cells D t)) (w.heap.size + 1 + 1 + 1) t D ∧
    Ext w ((((w.alloc (.cells A t)).alloc (.cells B t)).alloc (.cells C t)).alloc (.cells D t)) :=
  ⟨(Blk.new w t A).ext ((((Ext.refl _).alloc _).alloc _).alloc _), (Blk.at_ (by rw [alloc_size])).ext (((Ext.refl _).alloc _).alloc _), (Blk.at_ (by rw [alloc_size, alloc_size])).ext ((Ext.refl _).alloc _), Blk.at_ (by rw [alloc_size, alloc_size, alloc_size]), ((((Ext.refl w).alloc _).alloc _).alloc _).alloc _⟩
/-- a call's own world, by its boxes alone -/
theorem at_name {α : Type} (x : α) : ∃ y, x = y := ⟨_, rfl⟩

end Go.Proofs.YtijpeepdedfhoaaGreat
/- The document's own answer of layer 7 that later layers ask for: a determinant, by the first row. -/
namespace Go.Proofs.YtijpeepdedfhoaaGreat
open Go.RowKit Go.Maps

/-- a matrix's numbers, by row and column -/
def atF (n : Nat) (xs : List Int) : Nat → Nat → Int := fun i j => xs.getD (i * n + j) 0
/-- the minor without the first row and a column, as it is built -/
def minG (N : Nat) (xs : List Int) (k : Nat) : Nat → Int := fun t => atF (N + 1) xs (t / N + 1) (skp k (t % N))
theorem minG_atF (N : Nat) (xs : List Int) (k i j : Nat) (hi : i < N) (hj : j < N) : atF N (tab (N * N) (minG N xs k)) i j = atF (N + 1) xs (i + 1) (skp k j) := by
  unfold atF
  rw [tab_get _ (at_lt hi hj)]
  show atF (N + 1) xs ((i * N + j) / N + 1) (skp k ((i * N + j) % N)) = _
  rw [at_div hj, at_mod hj]
  rfl
/-- the sum over the first row, so far -/
def detTo (N : Nat) (xs : List Int) (p : Int) (k : Nat) : Int := (sm k fun t => sg t * atF (N + 1) xs 0 t * detF N (fun i j => atF (N + 1) xs (i + 1) (skp t j))) % p
theorem detTo_all (N : Nat) (xs : List Int) (p : Int) : detTo N xs p (N + 1) = detF (N + 1) (atF (N + 1) xs) % p := by rw [detF_succ]; rfl
theorem detTo_succ (N : Nat) (xs : List Int) (p : Int) (k : Nat) : detTo N xs p (k + 1) = (if k % 2 = 0 then (detTo N xs p k + (atF (N + 1) xs 0 k * (detF N (fun i j => atF (N + 1) xs (i + 1) (skp k j)) % p)) % p) % p else (detTo N xs p k - (atF (N + 1) xs 0 k * (detF N (fun i j => atF (N + 1) xs (i + 1) (skp k j)) % p)) % p) % p) := by
  obtain ⟨D, hD⟩ : ∃ D, detF N (fun i j => atF (N + 1) xs (i + 1) (skp k j)) = D := ⟨_, rfl⟩
  have e : (sm (k + 1) fun t => sg t * atF (N + 1) xs 0 t * detF N (fun i j => atF (N + 1) xs (i + 1) (skp t j))) = (sm k fun t => sg t * atF (N + 1) xs 0 t * detF N (fun i j => atF (N + 1) xs (i + 1) (skp t j))) + sg k * atF (N + 1) xs 0 k * D := by rw [← hD]; rfl
  unfold detTo
  rw [e, hD, mm_r, ma_l, ms_l]
  by_cases h : k % 2 = 0
  · rw [if_pos h, ma_r, show sg k = 1 by unfold sg; rw [if_pos h]]
    congr 1; grind
  · rw [if_neg h, ms_r, show sg k = -1 by unfold sg; rw [if_neg h]]
    congr 1; grind
end Go.Proofs.YtijpeepdedfhoaaGreat
/- A right matrix taken apart over a field: its rank, its profile, its determinant, as the laws of layer 7 ask for them (in plain Lean; nothing of a program). -/
namespace Go.Proofs.YtijpeepdedfhoaaGreat
variable {p : Int} {m n : Nat} {xs : List Int}

/-- a matrix's row -/
def rowOf (n : Nat) (xs : List Int) (i : Nat) : List Int := tab n fun j => xs.getD (i * n + j) 0
/-- a matrix taken apart -/
noncomputable def takeL (p : Int) (m n : Nat) (xs : List Int) : ElE := (takeE p n (rowOf n xs) m).getD .nil
theorem rowOf_rng (hp : 2 ≤ p) (hx : Rng p xs) (i : Nat) : (rowOf n xs i).length = n ∧ Rng p (rowOf n xs i) := ⟨tab_len _ _, tab_rng fun _ _ => hx.getD hp _⟩
theorem takeL_some (hp : 2 ≤ p) (hf : Fld p) (hx : Rng p xs) : takeE p n (rowOf n xs) m = some (takeL p m n xs) := by
  obtain ⟨st, h⟩ := takeE_some hp hf m fun i _ => rowOf_rng (n := n) hp hx i
  unfold takeL
  rw [h]; rfl
theorem takeL_ok (hp : 2 ≤ p) (hf : Fld p) (hx : Rng p xs) : ElOk p n (rowOf n xs) m (takeL p m n xs) := takeE_ok hp m (fun i _ => rowOf_rng hp hx i) (takeL_some hp hf hx)
theorem lf_row {i j : Nat} (hj : j < n) : lf (rowOf n xs i) j = atF n xs i j := tab_get _ hj
/-- the rank of the turned one -/
theorem rank_turn (hp : 2 ≤ p) (hf : Fld p) (hx : Rng p xs) : (takeL p n m (turnL m n xs)).U.length = (takeL p m n xs).U.length := by
  have hi := hf.has hp
  have B := (takeL_ok (m := m) (n := n) hp hf hx).bas hi
  have B' := (takeL_ok (m := n) (n := m) hp hf (turnL_rng hp hx m n)).bas hi
  have e1 : ∀ i j, i < m → j < n → lf (rowOf m (turnL m n xs) j) i = lf (rowOf n xs i) j := fun i j hi hj => by
    rw [lf_row hi, lf_row hj]
    show (turnL m n xs).getD (j * m + i) 0 = xs.getD (i * n + j) 0
    rw [turnL, grid_get _ hj hi]
  refine Nat.le_antisymm (Bas.turn_le hi B (u' := fun k => lf ((takeL p n m (turnL m n xs)).U.getD k [])) ⟨B'.ind, fun j hj => (B'.gen j hj).congr fun i hi => by rw [e1 i j hi hj], fun k hk => ?_⟩) (Bas.turn_le hi B' (u' := fun k => lf ((takeL p m n xs).U.getD k [])) ⟨B.ind, fun i hi => (B.gen i hi).congr fun j hj => by rw [e1 i j hi hj], fun k hk => ?_⟩)
  · exact (B'.own k hk).trans fun j hj => (Comb.one (fun j i => lf (rowOf n xs i) j) hj).congr fun i hi => by rw [e1 i j hi hj]
  · exact (B.own k hk).trans fun i hi => (Comb.one (fun i j => lf (rowOf m (turnL m n xs) j) i) hi).congr fun j hj => by rw [e1 i j hi hj]
theorem rowsF_det (n : Nat) (xs : List Int) : detN n (rowsF n (rowOf n xs)) = detF n (atF n xs) :=
  detF_congr n (A := fun i => lf (rowOf n xs i)) fun _ _ _ hj => lf_row hj
/-- the turned one's determinant -/
theorem det_turned (hp : 2 ≤ p) (hf : Fld p) (hx : Rng p xs) : detF n (atF n (turnL n n xs)) % p = detF n (atF n xs) % p := by
  have ok := takeL_ok (m := n) (n := n) hp hf hx
  have h1 := ok.det (hf.has hp)
  have h2 := ok.det_turn (hf.has hp)
  rw [rowsF_det] at h1
  rw [h1, ← h2]
  refine congrArg (· % p) (detF_congr n fun j i hj hi => ?_)
  rw [rowsF_get hi, lf_row hj]
  show (turnL n n xs).getD (j * n + i) 0 = xs.getD (i * n + j) 0
  rw [turnL, grid_get _ hj hi]
theorem mz_prod (hp : HasInv p) {a b : Int} (ha : a % p ≠ 0) (hb : b % p ≠ 0) : a * b % p ≠ 0 := fun h => ha (mz_cancel hp hb h)
theorem prN_ne (hp : HasInv p) {d : Nat → Int} : ∀ n, (∀ k, k < n → d k % p ≠ 0) → prN n d % p ≠ 0
  | 0, _ => by show (1 : Int) % p ≠ 0; rw [hp.one]; omega
  | n + 1, h => mz_prod hp (prN_ne hp n fun k hk => h k (by omega)) (h n (by omega))
/-- the determinant isn't 0 just if all rows count -/
theorem det_rank (hp : 2 ≤ p) (hf : Fld p) (hx : Rng p xs) : detF n (atF n xs) % p = 0 ↔ (takeL p n n xs).U.length ≠ n := by
  have ok := takeL_ok (m := n) (n := n) hp hf hx
  have hi := hf.has hp
  have h1 := ok.det hi
  rw [rowsF_det] at h1
  rw [h1]
  unfold detE
  have hle := ok.le
  by_cases h : (takeL p n n xs).U.length < n
  · rw [if_pos h]
    exact ⟨fun _ => by omega, fun _ => by simp⟩
  · rw [if_neg h]
    refine ⟨fun h0 => absurd h0 (mz_prod hi (prN_ne hi n fun k hk => ?_) ?_), fun h0 => absurd (show _ = n by omega) h0⟩
    · exact ok.ech.piv k (by omega)
    · rcases sgn_or (colsZ (takeL p n n xs)) with e | e
      · rw [e, hi.one]; omega
      · rw [e]
        intro h2
        have h3 := mz_neg h2
        rw [show -(-1 : Int) = 1 by rfl, hi.one] at h3
        omega
/-- the first rows' profile -/
theorem profile_prefix (hp : 2 ≤ p) (hf : Fld p) (hx : Rng p xs) {k : Nat} (hk : k ≤ m) : ∃ t, (takeL p m n xs).rows = (takeL p k n (xs.take (k * n))).rows ++ t ∧ ∀ x ∈ t, k ≤ x := by
  have h1 := takeL_some (m := k) (n := n) hp hf (hx.take (k * n))
  have h2 := takeL_some (m := m) (n := n) hp hf hx
  have e : takeE p n (rowOf n (xs.take (k * n))) k = takeE p n (rowOf n xs) k := takeE_congr k fun i hi => tab_congr fun j hj => by
    have := at_lt hi hj
    simp only [List.getD, List.getElem?_take, if_pos this]
  rw [e] at h1
  rw [show m = k + (m - k) by omega] at h2 ⊢
  exact takeE_prefix h1 (m - k) h2
end Go.Proofs.YtijpeepdedfhoaaGreat
/- A right matrix taken apart makes itself again; the minor of the rows and columns that count (in plain Lean; nothing of a program). -/
namespace Go.Proofs.YtijpeepdedfhoaaGreat
variable {p : Int} {m n : Nat} {xs : List Int}

/-- a row of so many numbers, 0 behind -/
def padL (r : Nat) (l : List Int) : List Int := l ++ List.replicate (r - l.length) 0
theorem padL_len {r : Nat} {l : List Int} (h : l.length ≤ r) : (padL r l).length = r := by simp [padL]; omega
theorem padL_get (r : Nat) (l : List Int) (k : Nat) : (padL r l).getD k 0 = l.getD k 0 := pad_get _ _ _
/-- what parts make -/
def makeL (p : Int) (C U : List (List Int)) (m n : Nat) : List Int := grid m n fun i j => (sm U.length fun t => (C.getD i []).getD t 0 * (U.getD t []).getD j 0) % p
theorem makeL_len (C U : List (List Int)) : (makeL p C U m n).length = m * n := grid_len _ _ _
theorem map_getD {C : List (List Int)} {f : List Int → List Int} {i : Nat} (h : i < C.length) : (C.map f).getD i [] = f (C.getD i []) := by
  simp [List.getD, List.getElem?_map, List.getElem?_eq_getElem h]
theorem make_take (hp : 2 ≤ p) (hf : Fld p) (hx : Rng p xs) (hl : xs.length = m * n) (hn : 1 ≤ n) (r : Nat) : makeL p ((takeL p m n xs).C.map (padL r)) (takeL p m n xs).U m n = xs := by
  have h := takeL_ok (m := m) (n := n) hp hf hx
  symm
  refine tab_of hl fun t ht => ?_
  have hi : t / n < m := (Nat.div_lt_iff_lt_mul (by omega)).2 ht
  have hj : t % n < n := Nat.mod_lt _ (by omega)
  have e : t / n * n + t % n = t := by rw [Nat.mul_comm]; exact Nat.div_add_mod t n
  have h1 := h.full hi hj
  have h2 : (rowOf n xs (t / n)).getD (t % n) 0 = xs.getD t 0 := by rw [← e]; simp only [e]; exact (tab_get _ hj).trans (by rw [e])
  rw [h2, mod_small (hx.getD hp t).1 (hx.getD hp t).2] at h1
  rw [h1]
  congr 2
  funext k
  rw [map_getD (by rw [h.lc]; exact hi), padL_get]

/-- the columns that count, rising -/
def risL (n : Nat) (cols : List Nat) : List Nat := (List.range n).filter fun l => decide (l ∈ cols)
theorem risL_mem {cols : List Nat} {l : Nat} : l ∈ risL n cols ↔ l < n ∧ l ∈ cols := by simp [risL]
theorem risL_len {cols : List Nat} (hn : cols.Nodup) (hb : ∀ c ∈ cols, c < n) : (risL n cols).length = cols.length := by
  have h1 := offE_len hn hb
  have h2 : (risL n cols).length + (offE n cols).length = n := by
    unfold risL offE
    rw [← List.countP_eq_length_filter, ← List.countP_eq_length_filter]
    have := List.length_eq_countP_add_countP (fun l => decide (l ∈ cols)) (l := List.range n)
    rw [List.length_range] at this
    simp only [decide_not] at this ⊢
    simpa using this.symm
  omega
/-- the minor of the rows and columns that count -/
noncomputable def minorL (p : Int) (m n : Nat) (xs : List Int) : List Int :=
  grid (takeL p m n xs).U.length (takeL p m n xs).U.length fun i l => xs.getD ((takeL p m n xs).rows.getD i 0 * n + (risL n (takeL p m n xs).cols).getD l 0) 0
theorem minorL_len : (minorL p m n xs).length = (takeL p m n xs).U.length * (takeL p m n xs).U.length := grid_len _ _ _
theorem minorL_rng (hp : 2 ≤ p) (hx : Rng p xs) : Rng p (minorL p m n xs) := tab_rng fun _ _ => hx.getD hp _
theorem minor_det (hp : 2 ≤ p) (hf : Fld p) (hx : Rng p xs) : detF (takeL p m n xs).U.length (atF (takeL p m n xs).U.length (minorL p m n xs)) % p ≠ 0 := by
  have h := takeL_ok (m := m) (n := n) hp hf hx
  obtain ⟨r, hr⟩ : ∃ r, (takeL p m n xs).U.length = r := ⟨_, rfl⟩
  have hy := minorL_rng (m := m) (n := n) hp hx
  have ho := takeL_ok (m := r) (n := r) hp hf hy
  have hi := hf.has hp
  have hcols : (risL n (takeL p m n xs).cols).length = r := by
    rw [risL_len h.cols_nodup fun c hc => h.cols_lt hc, h.lk, hr]
  rw [hr]
  intro h0
  apply (det_rank hp hf hy).1 h0
  apply Nat.le_antisymm ho.le
  have hm := h.minor hi (fun l => (risL n (takeL p m n xs).cols).getD l 0) (q := r) fun k hk => by
    have hk2 : k < (takeL p m n xs).cols.length := by rw [h.lk]; exact hk
    have hmem : (takeL p m n xs).cols.getD k 0 ∈ risL n (takeL p m n xs).cols := risL_mem.2 ⟨(h.row k hk).2.2.1, by simp [List.getD, List.getElem?_eq_getElem hk2]⟩
    obtain ⟨l, hl, e⟩ := List.getElem_of_mem hmem
    exact ⟨l, by rw [← hcols]; exact hl, by simp only [List.getD, List.getElem?_eq_getElem hl, Option.getD_some]; exact e⟩
  rw [hr] at hm
  refine hm.le hi fun k hk => ((ho.bas hi).gen k hk).congr fun j hj => ?_
  congr 1
  have e1 : lf (rowOf r (minorL p m n xs) k) j = (minorL p m n xs).getD (k * r + j) 0 := tab_get _ hj
  have e2 : (minorL p m n xs).getD (k * r + j) 0 = xs.getD ((takeL p m n xs).rows.getD k 0 * n + (risL n (takeL p m n xs).cols).getD j 0) 0 := by
    unfold minorL
    rw [hr]
    exact grid_get _ hk hj
  have hc : (risL n (takeL p m n xs).cols).getD j 0 < n := by
    have hj2 : j < (risL n (takeL p m n xs).cols).length := by rw [hcols]; exact hj
    have : (risL n (takeL p m n xs).cols).getD j 0 ∈ risL n (takeL p m n xs).cols := by simp [List.getD, List.getElem?_eq_getElem hj2]
    exact (risL_mem.1 this).1
  rw [e1, e2]
  exact tab_get _ hc
end Go.Proofs.YtijpeepdedfhoaaGreat
/- Rows of rows of numbers; a matrix's parts in memory. -/
namespace Go.Proofs.YtijpeepdedfhoaaGreat
open Go.RowKit Go.Maps

/-- in the world w the slice v reads as rows of numbers -/
def UsL (w : World) (v : Value) (ls : List (List Int)) : Prop :=
  ∃ (a : Option Addr) (cap : Nat), v = .slice a ls.length cap ∧ ls.length ≤ cap ∧ cap ≤ 9223372036854775807 ∧
    (0 < ls.length → ∃ b off, a = some ⟨b, off, none⟩ ∧ b < w.heap.size ∧ ∀ j, j < ls.length → ∃ u, w.cell? ⟨b, off + j, none⟩ = some u ∧ Ints .u64 w u (ls.getD j []))
theorem UsL.ext {w w' : World} {v : Value} {ls : List (List Int)} (h : UsL w v ls) (he : Ext w w') : UsL w' v ls := by
  obtain ⟨a, cap, h1, h2, h3, h4⟩ := h
  refine ⟨a, cap, h1, h2, h3, fun hp => ?_⟩
  obtain ⟨b, off, ha, hb, hc⟩ := h4 hp
  refine ⟨b, off, ha, Nat.lt_of_lt_of_le hb he.size, fun j hj => ?_⟩
  obtain ⟨u, c1, c2⟩ := hc j hj
  exact ⟨u, (he.cells _ _ hb).trans c1, c2.ext he⟩
theorem UsL.nil {w : World} : UsL w (.slice none 0 0) [] := ⟨none, 0, rfl, by simp, by omega, by simp⟩
/-- a matrix's parts, and no error -/
def RetCup (rows cols : List Int) (C U : List (List Int)) (w : World) (e : Ending) (w' : World) : Prop :=
  ∃ rv cv Cv Uv, e = .returned (.tuple #[.agg #[rv, cv, Cv, Uv], .int .i64 0]) ∧ Ints .i64 w' rv rows ∧ Ints .i64 w' cv cols ∧ UsL w' Cv C ∧ UsL w' Uv U ∧ Ext w w'
/-- parts that may make a matrix of m rows and n columns -/
structure CupOk (p : Int) (m n : Nat) (C U : List (List Int)) : Prop where
  hp : rightB p = true
  hm : 1 ≤ m ∧ m ≤ 64
  hn : 1 ≤ n ∧ n ≤ 64
  lc : C.length = m
  c : ∀ l ∈ C, l.length = U.length ∧ Rng p l
  u : ∀ l ∈ U, l.length = n ∧ Rng p l
  hu : U.length ≤ 64
/-- a matrix's profile, as whole numbers -/
noncomputable def profZ (p : Int) (m n : Nat) (xs : List Int) : List Int := (takeL p m n xs).rows.map fun k : Nat => (k : Int)
theorem profZ_len {p : Int} {m n : Nat} {xs : List Int} (ok : MatOk p m n xs) (hf : Fld p) : (profZ p m n xs).length = (takeL p m n xs).U.length := by
  have := (takeL_ok (m := m) (n := n) (rightB_true ok.hp).1 hf ok.hx).lr
  simp [profZ, this]
theorem colsZ_len {p : Int} {m n : Nat} {xs : List Int} (ok : MatOk p m n xs) (hf : Fld p) : (colsZ (takeL p m n xs)).length = (takeL p m n xs).U.length := by
  have := (takeL_ok (m := m) (n := n) (rightB_true ok.hp).1 hf ok.hx).lk
  simp [colsZ, this]
theorem Rng.pad {p : Int} {l : List Int} (h : Rng p l) (hp : 2 ≤ p) (r : Nat) : Rng p (padL r l) := rng_app h fun x hx => by
  rw [List.eq_of_mem_replicate hx]; omega
theorem take_parts {p : Int} {m n : Nat} {xs : List Int} (ok : MatOk p m n xs) (hf : Fld p) : CupOk p m n ((takeL p m n xs).C.map (padL (takeL p m n xs).U.length)) (takeL p m n xs).U := by
  have hp := (rightB_true ok.hp).1
  have h := takeL_ok (m := m) (n := n) hp hf ok.hx
  refine ⟨ok.hp, ok.hm, ok.hn, by rw [List.length_map, h.lc], fun l hl => ?_, fun l hl => ?_, Nat.le_trans h.le ok.hm.2⟩
  · obtain ⟨k, hk, rfl⟩ := List.mem_map.1 hl
    obtain ⟨i, hi, rfl⟩ := List.getElem_of_mem hk
    have := h.cl i (by rw [← h.lc]; exact hi)
    rw [List.getD, List.getElem?_eq_getElem hi] at this
    exact ⟨padL_len this.1, this.2.pad hp _⟩
  · obtain ⟨i, hi, rfl⟩ := List.getElem_of_mem hl
    have := h.row i hi
    rw [List.getD, List.getElem?_eq_getElem hi] at this
    exact ⟨this.1, this.2.1⟩
end Go.Proofs.YtijpeepdedfhoaaGreat
