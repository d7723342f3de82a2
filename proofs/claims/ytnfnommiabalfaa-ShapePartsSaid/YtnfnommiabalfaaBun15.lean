/- What the texts Mx3, FoR, Mx4, Mat7, Mx8, Mx9 show, in one text. -/
import Derived.Test.YtnfnommiabalfaaBun13
import Derived.Test.YtnfnommiabalfaaBun01
import Derived.Test.YtnfnommiabalfaaBun12
import Derived.Deep.RegionHeld3
/- Package matrix: matrices under way; Turn, Left. -/
namespace Go.Proofs.Ytnfnommiabalfaa
open Go.RowKit Go.Maps

/-- a matrix under way: its box, and its cells -/
structure Und (w0 w : World) (h g Q : Nat) (r c : Int) (l : List Int) : Prop where
  box : Blk w h 25 #[.int .i64 r, .int .i64 c, .slice (some ⟨g, 0, none⟩) Q Q]
  row : WRow w g 0 l
  len : l.length = Q
  ext : Ext w0 w
  hg : w0.heap.size ≤ g
  hh : w0.heap.size ≤ h
  ne : g ≠ h
theorem Und.ext' {w0 w w' : World} {h g Q : Nat} {r c : Int} {l : List Int} (b : Und w0 w h g Q r c l) (y : Ext w w') : Und w0 w' h g Q r c l :=
  ⟨b.box.ext y, b.row.ext y, b.len, b.ext.trans y, b.hg, b.hh, b.ne⟩
theorem Und.put {w0 w : World} {h g Q : Nat} {r c : Int} {l : List Int} (b : Und w0 w h g Q r c l) {i : Nat} (hi : i < Q) (x : Int) : Und w0 (w.setCell ⟨g, i, none⟩ (.int .u64 x)) h g Q r c (l.set i x) := by
  have hs := b.row.set_ (i := i) (by rw [b.len]; exact hi) x
  rw [Nat.zero_add] at hs
  exact ⟨b.box.grown (setCell_grown _ _ _) (fun e => b.ne (by injection e)), hs, by rw [List.length_set]; exact b.len, b.ext.setCell (p := ⟨g, i, none⟩) b.hg _, b.hg, b.hh, b.ne⟩
theorem Und.at_ {w0 w : World} {h g Q : Nat} {r c : Int} {l : List Int} (b : Und w0 w h g Q r c l) {i : Nat} (hi : i < Q) : w.cell? ⟨g, i, none⟩ = some (.int .u64 (l.getD i 0)) ∧ w.frozen? ⟨g, i, none⟩ = false := by
  have := b.row.2 i (by rw [b.len]; exact hi)
  rw [Nat.zero_add] at this
  exact this
theorem Und.start {w0 w : World} {g Q : Nat} {r c : Int} {l : List Int} (hg : w0.heap.size ≤ g) (hrow : WRow w g 0 l) (hl : l.length = Q) (x : Ext w0 w) :
    Und w0 (w.alloc (.cells #[.int .i64 r, .int .i64 c, .slice (some ⟨g, 0, none⟩) Q Q] 25)) w.heap.size g Q r c l :=
  ⟨Blk.new _ _ _, hrow.ext ((Ext.refl _).alloc _), hl, x.alloc _, hg, x.size, Nat.ne_of_lt hrow.1⟩
/-- the answer's box is told a matrix -/
theorem fin0 {w wv : World} {g : Nat} {x y z : Value} (hR : Blk w g 25 #[x, y, z]) (hv : Ext wv w) (hg : wv.heap.size ≤ g) (a b c : Value) :
    Blk (((w.setCell ⟨g, 0, none⟩ a).setCell ⟨g, 1, none⟩ b).setCell ⟨g, 2, none⟩ c) g 25 #[a, b, c] ∧ Ext wv (((w.setCell ⟨g, 0, none⟩ a).setCell ⟨g, 1, none⟩ b).setCell ⟨g, 2, none⟩ c) :=
  ⟨((hR.set_ 0 a).set_ 1 b).set_ 2 c, ((hv.setCell (p := ⟨g, 0, none⟩) hg a).setCell (p := ⟨g, 1, none⟩) hg b).setCell (p := ⟨g, 2, none⟩) hg c⟩
theorem Und.fin {w0 w wv : World} {h g Q G : Nat} {r c : Int} {l : List Int} (b : Und w0 w h g Q r c l) {x y z : Value} (hR : Blk w G 25 #[x, y, z]) (hG : G < w0.heap.size) (hv : Ext wv w) (hgv : wv.heap.size ≤ G) (hQ : Q ≤ 9223372036854775807) :
    Blk (((w.setCell ⟨G, 0, none⟩ (.int .i64 r)).setCell ⟨G, 1, none⟩ (.int .i64 c)).setCell ⟨G, 2, none⟩ (.slice (some ⟨g, 0, none⟩) Q Q)) G 25 #[.int .i64 r, .int .i64 c, .slice (some ⟨g, 0, none⟩) Q Q] ∧
    Ints .u64 (((w.setCell ⟨G, 0, none⟩ (.int .i64 r)).setCell ⟨G, 1, none⟩ (.int .i64 c)).setCell ⟨G, 2, none⟩ (.slice (some ⟨g, 0, none⟩) Q Q)) (.slice (some ⟨g, 0, none⟩) Q Q) l ∧
    Ext wv (((w.setCell ⟨G, 0, none⟩ (.int .i64 r)).setCell ⟨G, 1, none⟩ (.int .i64 c)).setCell ⟨G, 2, none⟩ (.slice (some ⟨g, 0, none⟩) Q Q)) := by
  have hne : g ≠ G := by have := b.hg; omega
  refine ⟨(fin0 hR hv hgv _ _ _).1, ?_, (fin0 hR hv hgv _ _ _).2⟩
  exact (((b.row.set_other hne).set_other hne).set_other hne).ints' b.len (Nat.le_refl _) hQ
theorem boxes2 (w : World) (t t' : TypeId) (A B : Array Value) :
    Blk ((w.alloc (.cells A t)).alloc (.cells B t')) w.heap.size t A ∧ Blk ((w.alloc (.cells A t)).alloc (.cells B t')) (w.heap.size + 1) t' B ∧ Ext w ((w.alloc (.cells A t)).alloc (.cells B t')) :=
  ⟨(Blk.new w t A).ext ((Ext.refl _).alloc _), Blk.at_ (by rw [alloc_size]), ((Ext.refl w).alloc _).alloc _⟩
theorem at_inj {c i k i' k' : Nat} (hk : k < c) (hk' : k' < c) (h : i * c + k = i' * c + k') : i = i' ∧ k = k' := by
  constructor
  · rw [← at_div hk (i := i), h, at_div hk']
  · rw [← at_mod hk (i := i), h, at_mod hk']
theorem put_at {l : List Int} {c j i a b : Nat} (x : Int) (hi : i < c) (hb : b < c) (hl : j * c + i < l.length) : (l.set (j * c + i) x).getD (a * c + b) 0 = if a = j ∧ b = i then x else l.getD (a * c + b) 0 := by
  rw [set_get l _ _ x hl]
  by_cases e : a = j ∧ b = i
  · rw [if_pos e, if_pos (by rw [e.1, e.2])]
  · rw [if_neg e, if_neg (fun h => e (by obtain ⟨h1, h2⟩ := at_inj hi hb h; exact ⟨h1.symm, h2.symm⟩))]

/-- what a call answers where something isn't right, instead of a matrix -/
def noMat : Value := .tuple #[.agg #[.int .i64 0, .int .i64 0, .slice none 0 0], .int .i64 1]
end Go.Proofs.Ytnfnommiabalfaa
/- The document's own answers of layer 12: all 0, a number's digits, matrices that meet. -/
namespace Go.Proofs.Ytnfnommiabalfaa
open Go.RowKit Go.Maps

/-- are all numbers 0? -/
def zeroB (l : List Int) : Bool := l.all fun x => x == 0
theorem zeroB_iff {l : List Int} : zeroB l = true ↔ ∀ j, j < l.length → l.getD j 0 = 0 := by
  unfold zeroB
  rw [List.all_eq_true]
  constructor
  · intro h j hj
    have := h _ (List.getElem_mem hj)
    simpa [List.getD, hj] using this
  · intro h x hx
    obtain ⟨j, hj, rfl⟩ := List.getElem_of_mem hx
    have := h j hj
    simpa [List.getD, hj] using this
theorem digV_snoc (p : Nat) : ∀ (j N : Nat), digV p N (j + 1) = digV p N j ++ [((N / p ^ j % p : Nat) : Int)]
  | 0, N => by simp [digV]
  | j + 1, N => by
    rw [digV, digV_snoc p j (N / p)]
    show _ :: (digV p (N / p) j ++ _) = (_ :: digV p (N / p) j) ++ _
    rw [Nat.div_div_eq_div_mul, Nat.pow_succ, Nat.mul_comm p]
    rfl
set_option maxRecDepth 100000 in
set_option maxHeartbeats 1000000 in
theorem r12Vector (p N n : Nat) (w : World) (hp : 1 ≤ p ∧ p ≤ 18446744073709551615) (hN : N ≤ 18446744073709551615) (hn : n ≤ 64) :
    Calls Try.prog 19 #[.int .u64 p, .int .u64 N, .int .i64 n] w fun e w' => ∃ v, e = .returned v ∧ w'.ownsRow w.heap.size 22 1 v n ((digV p N n).map (Value.int .u64)) ∧ Ext w w' := by
  obtain ⟨i0, hi, hz0, hz1, hz2⟩ := info_parts info_u64p
  go_enter Try.func19, Try.ntmps19
  go_wp2_with fail
  go_loopw [1, 7, 8] (fun q b i wr => ∃ (j : Nat) (M : Nat), i = .int .i64 j ∧ j ≤ n ∧ q = .int .u64 M ∧ M ≤ 18446744073709551615 ∧ Hid (M = N / p ^ j) ∧ Hid (wr.ownsRow w.heap.size 22 1 b j ((digV p N j).map (Value.int .u64))) ∧ Ext w wr) (fun _ _ i _ => n - (intOf i).toNat)
  case atStart => exact ⟨0, N, rfl, Nat.zero_le _, rfl, hN, hid (by simp), hid (World.ownsRow_nil _ _ _ _), Ext.refl _⟩
  case round =>
    obtain ⟨j, M, rfl, hj, rfl, hM, hMe, ho, hx⟩ := hrel
    rename World => wr
    obtain ⟨ar, cr, er⟩ : ∃ ar cr, _ := by
      obtain ⟨ar, cr, er, -, -⟩ := WRow.of_owns ho.out
      exact ⟨ar, cr, er⟩
    by_cases hlt : j < n
    · obtain ⟨d, ed⟩ : ∃ d, M % p = d := ⟨_, rfl⟩
      obtain ⟨q, eq⟩ : ∃ q, M / p = q := ⟨_, rfl⟩
      have t1 : ((M : Int)).tmod (p : Int) = (d : Int) := by rw [Int.tmod_eq_emod_of_nonneg (by omega), ← ed]; rfl
      have t2 : ((M : Int)).tdiv (p : Int) = (q : Int) := by rw [Int.tdiv_eq_ediv_of_nonneg (by omega), ← eq]; rfl
      have hq : q ≤ M := by rw [← eq]; exact Nat.div_le_self _ _
      have hd : d < p := by rw [← ed]; exact Nat.mod_lt _ (by omega)
      have hp0 : (p : Int) ≠ 0 := by omega
      have hnx := hid (show (digV p N j).map (Value.int .u64) ++ [.int .u64 (d : Int)] = (digV p N (j + 1)).map (Value.int .u64) by rw [digV_snoc, ← hMe.out, ed]; simp)
      have hqe := hid (show q = N / p ^ (j + 1) by rw [← eq, hMe.out, Nat.div_div_eq_div_mul, Nat.pow_succ])
      have hsz := hx.size
      subst er
      clear ed eq
      go_wp2_with (at_builtin; refine wpList_append_own _ rfl _ _ 23 rfl w.heap.size 22 i0 (.int .u64 0) 1 8 Try.underlying23 hi hz0 hz1 hz2 rfl (by decide) _ _ _ rfl (ho.out.alloc _) ⟨wr.heap.size, 0, none⟩ 1 1 [.int .u64 (d : Int)] rfl rfl (cells_new _ _ _ (by simp)) (by simp [Value.oneCell']) (by simp only [maxLen]; omega) (by omega) (by simp; omega) ?_; intro v1 w1 hown1 hgrow1 _)
      go_roundw
      case rel => exact ⟨j + 1, q, by go_num, by omega, by go_num, by omega, hqe, hid (by rw [← hnx.out]; exact hown1), (hx.alloc _).grown hgrow1 (fun k e => (ho.out.lt k e).1)⟩
      case measure => simp [intOf]; omega
    · obtain rfl : j = n := by omega
      subst er
      go_wp2_with fail
      go_ret
      exact ⟨_, rfl, ho.out, hx⟩
/-- three matrices in boxes -/
theorem boxes_3 (w : World) (t : TypeId) (a b c : Array Value) : Blk (((w.alloc (.cells a t)).alloc (.cells b t)).alloc (.cells c t)) w.heap.size t a ∧ Blk (((w.alloc (.cells a t)).alloc (.cells b t)).alloc (.cells c t)) (w.heap.size + 1) t b ∧ Blk (((w.alloc (.cells a t)).alloc (.cells b t)).alloc (.cells c t)) (w.heap.size + 1 + 1) t c ∧ Ext w (((w.alloc (.cells a t)).alloc (.cells b t)).alloc (.cells c t)) := by
  refine ⟨((Blk.new w t a).ext ((Ext.refl _).alloc _)).ext ((Ext.refl _).alloc _), ?_, ?_, (((Ext.refl w).alloc _).alloc _).alloc _⟩
  · have := (Blk.new (w.alloc (.cells a t)) t b).ext ((Ext.refl _).alloc (.cells c t))
    rwa [alloc_size] at this
  · have := Blk.new ((w.alloc (.cells a t)).alloc (.cells b t)) t c
    rwa [alloc_size, alloc_size] at this
/-- do they meet? -/
def meetB (p ra ca rb cb rc cc : Int) (xs ys zs : List Int) : Bool := matB p ra ca xs && (matB p rb cb ys && (matB p rc cc zs && (decide (ca = rb) && (decide (rc = ra) && decide (cc = cb)))))
end Go.Proofs.Ytnfnommiabalfaa
/- Package matrix: Left, Mul, One. -/
namespace Go.Proofs.Ytnfnommiabalfaa
open Go.RowKit Go.Maps

theorem MatOk.turn {p : Int} {m n : Nat} {xs : List Int} (h : MatOk p m n xs) : MatOk p n m (turnL m n xs) :=
  ⟨h.hp, turnL_rng (rightB_true h.hp).1 h.hx m n, h.hn, h.hm, turnL_len m n xs⟩
theorem times_turn (p : Int) (m n : Nat) (xs ys : List Int) : timesL p n m (turnL m n xs) ys = leftL p m n xs ys := by
  unfold timesL leftL
  refine tab_congr fun k hk => dv_congr (fun i hi => ?_) fun _ _ => rfl
  rw [turnL, grid_get _ hk hi]
theorem boxesM3 (w : World) (t : TypeId) (A B C : Array Value) :
    Blk (((w.alloc (.cells A t)).alloc (.cells B t)).alloc (.cells C t)) w.heap.size t A ∧ Blk (((w.alloc (.cells A t)).alloc (.cells B t)).alloc (.cells C t)) (w.heap.size + 1) t B ∧
    Blk (((w.alloc (.cells A t)).alloc (.cells B t)).alloc (.cells C t)) (w.heap.size + 1 + 1) t C ∧ Ext w (((w.alloc (.cells A t)).alloc (.cells B t)).alloc (.cells C t)) :=
  ⟨(Blk.new w t A).ext (((Ext.refl _).alloc _).alloc _), (Blk.at_ (by rw [alloc_size])).ext ((Ext.refl _).alloc _), Blk.at_ (by rw [alloc_size, alloc_size]), (((Ext.refl w).alloc _).alloc _).alloc _⟩

end Go.Proofs.Ytnfnommiabalfaa
/- Thin matrices: the document's own answer to: is one right; and the whole matrix of one. -/
namespace Go.Proofs.Ytnfnommiabalfaa
open Go.RowKit Go.Maps

def SpIs (p r c : Int) (bs cs vs : List Int) : Prop := ∃ m n : Nat, r = m ∧ c = n ∧ SpOk p m n bs cs vs
/-- the number at row i, column c, as far as t numbers were looked at -/
def whF (bs cs vs : List Int) (i c : Nat) : Nat → Int
  | 0 => 0
  | t + 1 => if bs.getD i 0 ≤ t ∧ (t : Int) < bs.getD (i + 1) 0 ∧ cs.getD t 0 = c then vs.getD t 0 else whF bs cs vs i c t
theorem whF_before (bs cs vs : List Int) (i c : Nat) : ∀ t : Nat, (t : Int) ≤ bs.getD i 0 → whF bs cs vs i c t = 0
  | 0, _ => rfl
  | t + 1, h => by rw [whF, if_neg (by omega), whF_before bs cs vs i c t (by omega)]
theorem whF_behind (bs cs vs : List Int) (i c : Nat) {t : Nat} (h : bs.getD (i + 1) 0 ≤ t) : ∀ d : Nat, whF bs cs vs i c (t + d) = whF bs cs vs i c t
  | 0 => rfl
  | d + 1 => by
    show whF bs cs vs i c (t + d + 1) = _
    rw [whF, if_neg (by omega), whF_behind bs cs vs i c h d]
/-- the whole matrix's cell -/
def whAt (bs cs vs : List Int) (i c : Nat) : Int := whF bs cs vs i c cs.length

/-- three boxes, one behind the other -/
theorem boxes3 (w : World) (t t' : TypeId) (A B C : Array Value) :
    Blk (((w.alloc (.cells A t)).alloc (.cells B t')).alloc (.cells C t')) w.heap.size t A ∧ Blk (((w.alloc (.cells A t)).alloc (.cells B t')).alloc (.cells C t')) (w.heap.size + 1) t' B ∧
    Blk (((w.alloc (.cells A t)).alloc (.cells B t')).alloc (.cells C t')) (w.heap.size + 1 + 1) t' C ∧ Ext w (((w.alloc (.cells A t)).alloc (.cells B t')).alloc (.cells C t')) :=
  ⟨(Blk.new w t A).ext (((Ext.refl _).alloc _).alloc _), (Blk.at_ (by rw [alloc_size])).ext ((Ext.refl _).alloc _), Blk.at_ (by rw [alloc_size, alloc_size]), (((Ext.refl w).alloc _).alloc _).alloc _⟩
theorem Blk.at5 {w : World} {g : Nat} {t : TypeId} {a b c d e : Value} (h : Blk w g t #[a, b, c, d, e]) : w.cell? ⟨g, 0, none⟩ = some a ∧ w.cell? ⟨g, 1, none⟩ = some b ∧ w.cell? ⟨g, 2, none⟩ = some c ∧ w.cell? ⟨g, 3, none⟩ = some d ∧ w.cell? ⟨g, 4, none⟩ = some e :=
  ⟨h.cell 0, h.cell 1, h.cell 2, h.cell 3, h.cell 4⟩

end Go.Proofs.Ytnfnommiabalfaa
/- Package matrix, thin matrices: what of the library they call; a row's columns and numbers; whether columns rise, whether rows begin right. -/
namespace Go.Proofs.Ytnfnommiabalfaa
open Go.RowKit Go.Maps

/-- answers whether P, and only draws -/
def RetIffD (P : Prop) (w : World) (e : Ending) (w' : World) : Prop := ∃ b : Bool, e = .returned (.bool b) ∧ (b = true ↔ P) ∧ Drw w w'
/-- none less than the one ahead -/
def Sorted (xs : List Int) : Prop := ∀ j, j + 1 < xs.length → xs.getD j 0 ≤ xs.getD (j + 1) 0
/-! ### A row's piece -/
def seg (xs : List Int) (lo hi : Nat) : List Int := (xs.drop lo).take (hi - lo)
theorem seg_len {xs : List Int} {lo hi : Nat} (h : hi ≤ xs.length) : (seg xs lo hi).length = hi - lo := by simp [seg]; omega
theorem seg_get (xs : List Int) (lo hi k : Nat) (h : k < hi - lo) : (seg xs lo hi).getD k 0 = xs.getD (lo + k) 0 := sub_get xs lo _ k h
def segA (a : Option Addr) (lo cap : Nat) : Option Addr := if cap = lo then a else a.map (·.add lo)
theorem Ints.seg {k : IntKind} {w : World} {a : Option Addr} {m cap : Nat} {xs : List Int} (h : Ints k w (.slice a m cap) xs) (lo hi : Nat) (h1 : lo ≤ hi) (h2 : hi ≤ xs.length) :
    Ints k w (.slice (segA a lo cap) (hi - lo) (cap - lo)) (seg xs lo hi) := by
  obtain ⟨a', cap', e, l1, l2, l3⟩ := h
  injection e with e1 e2 e3
  subst e1; subst e3
  have hl := seg_len (lo := lo) h2
  refine ⟨_, cap - lo, by rw [hl], by omega, by omega, fun hp => ?_⟩
  rw [hl] at hp
  obtain ⟨b, off, rfl, hb, hc⟩ := l3 (by omega)
  refine ⟨b, off + lo, ?_, hb, fun j hj => ?_⟩
  · unfold segA
    rw [if_neg (by omega)]
    simp [Go.WideShapes.add_plain]
  · rw [hl] at hj
    rw [Nat.add_assoc, hc (lo + j) (by omega), seg_get xs lo hi j hj]
theorem seg_run {P : Program} {t : TypeId} (hu : P.underlying t = some (.slice (P.elem t))) (hs : ∀ w, ((sizeOf (P.elem t)).run P w) = .ok 1 w) (a : Option Addr) (len cap lo hi : Nat) (h1 : lo ≤ hi) (h2 : hi ≤ cap) (w : World) :
    (Instr.slice t (.slice a len cap) (some (.int .i64 (lo : Int))) (some (.int .i64 (hi : Int))) none).run P w = .ok (.slice (segA a lo cap) (hi - lo) (cap - lo)) w ∧
    (Instr.sliceAt t (.slice a len cap) (some (.int .i64 (lo : Int))) (some (.int .i64 (hi : Int))) none).run P w = .ok (.slice (segA a lo cap) (hi - lo) (cap - lo)) w := by
  have e : (Instr.slice t (.slice a len cap) (some (.int .i64 (lo : Int))) (some (.int .i64 (hi : Int))) none).run P w = .ok (.slice (segA a lo cap) (hi - lo) (cap - lo)) w := by
    rw [run_slice_lh w t _ len cap hu .i64 .i64 lo hi (by omega) (by omega) (by omega), hs]
    simp only [Result.andThen, sliced, Int.toNat_natCast, segA, Nat.mul_one]
  exact ⟨e, by rw [run_sliceAt_slice w t _ _ _ _ hu]; exact e⟩
/-- what line answers: pieces of what was there -/
def RetS (cs vs : List Int) (lo hi : Nat) (w0 w : World) (e : Ending) (w' : World) : Prop := ∃ vc vv, e = .returned (.tuple #[vc, vv]) ∧ Ints .i64 w0 vc (seg cs lo hi) ∧ Ints .u64 w0 vv (seg vs lo hi) ∧ Ext w w'
end Go.Proofs.Ytnfnommiabalfaa
/- Package matrix, thin matrices: whether columns rise, whether rows begin right, SparseRight. -/
namespace Go.Proofs.Ytnfnommiabalfaa
open Go.RowKit Go.Maps

theorem no_iff {P : Prop} (h : ¬ P) : false = true ↔ P := ⟨fun e => absurd e (by decide), fun e => absurd e h⟩
/-- each column is one, and greater than the one ahead -/
def Rise (n : Int) (l : List Int) : Prop := ∀ k, k < l.length → 0 ≤ l.getD k 0 ∧ l.getD k 0 < n ∧ (0 < k → l.getD (k - 1) 0 < l.getD k 0)
/-- answers whether P, the world as it is -/
def RetIffL (P : Prop) (w : World) (e : Ending) (w' : World) : Prop := ∃ b : Bool, e = .returned (.bool b) ∧ (b = true ↔ P) ∧ w = w'
/-- each row is a part of the columns and numbers, and all rows together are these -/
def BeginOk (m : Nat) (bs cs vs : List Int) : Prop := bs.length = m + 1 ∧ bs.getD 0 0 = 0 ∧ Sorted bs ∧ bs.getD m 0 = cs.length ∧ cs.length = vs.length
/-! ### What a right thin matrix is, in the code's own words -/
/-- where row i begins -/
def beg (bs : List Int) (i : Nat) : Nat := (bs.getD i 0).toNat
theorem BeginOk.mono {m : Nat} {bs cs vs : List Int} (h : BeginOk m bs cs vs) : ∀ i, i < m → bs.getD i 0 ≤ bs.getD (i + 1) 0 := fun i hi => h.2.2.1 i (by rw [h.1]; omega)
theorem beg_of {m : Nat} {bs cs : List Int} (h0 : bs.getD 0 0 = 0) (hm : bs.getD m 0 = cs.length) (mono : ∀ i, i < m → bs.getD i 0 ≤ bs.getD (i + 1) 0) {i : Nat} (hi : i ≤ m) : bs.getD i 0 = (beg bs i : Nat) ∧ beg bs i ≤ cs.length := by
  have h1 := mono_ge mono 0 i (Nat.zero_le _) hi
  have h2 := mono_ge mono i m hi (Nat.le_refl _)
  unfold beg
  omega
theorem beg_le {m : Nat} {bs : List Int} (mono : ∀ i, i < m → bs.getD i 0 ≤ bs.getD (i + 1) 0) {i : Nat} (hi : i < m) : beg bs i ≤ beg bs (i + 1) := by
  have := mono i hi
  unfold beg
  omega
/-- each number stands in some row -/
theorem row_of {m : Nat} {bs cs : List Int} (h0 : bs.getD 0 0 = 0) : ∀ (M k : Nat), (k : Int) < bs.getD M 0 → ∃ i, i < M ∧ bs.getD i 0 ≤ k ∧ (k : Int) < bs.getD (i + 1) 0
  | 0, k, h => by rw [h0] at h; omega
  | M + 1, k, h => by
    by_cases e : (k : Int) < bs.getD M 0
    · obtain ⟨i, h1, h2, h3⟩ := row_of (m := m) (cs := cs) h0 M k e
      exact ⟨i, by omega, h2, h3⟩
    · exact ⟨M, by omega, by omega, h⟩
theorem SpOk.begins {p : Int} {m n : Nat} {bs cs vs : List Int} (h : SpOk p m n bs cs vs) : BeginOk m bs cs vs := ⟨h.lb, h.b0, fun j hj => h.mono j (by have := h.lb; omega), h.bm, h.lc⟩
theorem SpOk.nozero {p : Int} {m n : Nat} {bs cs vs : List Int} (h : SpOk p m n bs cs vs) : (0 : Int) ∉ vs := fun h0 => by
  obtain ⟨k, hk, e⟩ := List.mem_iff_getElem.1 h0
  obtain ⟨i, h1, h2, h3⟩ := row_of (m := m) (cs := cs) h.b0 m k (by rw [h.bm, h.lc]; omega)
  exact (h.row i h1 k h2 h3).1 (by simp [List.getD, List.getElem?_eq_getElem hk, e])
theorem SpOk.rises {p : Int} {m n : Nat} {bs cs vs : List Int} (h : SpOk p m n bs cs vs) {i : Nat} (hi : i < m) : Rise n (seg cs (beg bs i) (beg bs (i + 1))) := by
  obtain ⟨e1, l1⟩ := beg_of h.b0 h.bm h.mono (show i ≤ m by omega)
  obtain ⟨e2, l2⟩ := beg_of h.b0 h.bm h.mono (show i + 1 ≤ m by omega)
  intro k hk
  rw [seg_len l2] at hk
  have := h.row i hi (beg bs i + k) (by omega) (by omega)
  obtain ⟨c1, c2, c3, c4⟩ := this
  rw [seg_get _ _ _ _ hk]
  refine ⟨c2, c3, fun h0 => ?_⟩
  rw [seg_get _ _ _ _ (by omega)]
  have := c4 (by omega)
  rwa [show beg bs i + k - 1 = beg bs i + (k - 1) by omega] at this
theorem SpOk.of {p : Int} {m n : Nat} {bs cs vs : List Int} (hm : 1 ≤ m ∧ m ≤ 64) (hn : 1 ≤ n ∧ n ≤ 64) (hb : BeginOk m bs cs vs) (hv : hasB p vs = true) (h0 : (0 : Int) ∉ vs) (hr : ∀ i, i < m → Rise n (seg cs (beg bs i) (beg bs (i + 1)))) : SpOk p m n bs cs vs where
  m1 := hm
  n1 := hn
  lb := hb.1
  lc := hb.2.2.2.2
  hv := hv
  b0 := hb.2.1
  bm := hb.2.2.2.1
  mono := hb.mono
  row := fun i hi k h1 h2 => by
    obtain ⟨e1, l1⟩ := beg_of hb.2.1 hb.2.2.2.1 hb.mono (show i ≤ m by omega)
    obtain ⟨e2, l2⟩ := beg_of hb.2.1 hb.2.2.2.1 hb.mono (show i + 1 ≤ m by omega)
    obtain ⟨t, rfl⟩ : ∃ t, k = beg bs i + t := ⟨k - beg bs i, by omega⟩
    have ht : t < beg bs (i + 1) - beg bs i := by omega
    have hk : beg bs i + t < vs.length := by rw [← hb.2.2.2.2]; omega
    obtain ⟨c1, c2, c3⟩ := hr i hi t (by rw [seg_len l2]; exact ht)
    rw [seg_get _ _ _ _ ht] at c1 c2 c3
    refine ⟨fun e => h0 (by rw [← e]; exact getD_mem 0 hk), c1, c2, fun h => ?_⟩
    have := c3 (by omega)
    rw [seg_get _ _ _ _ (by omega)] at this
    rwa [show beg bs i + t - 1 = beg bs i + (t - 1) by omega]
end Go.Proofs.Ytnfnommiabalfaa
