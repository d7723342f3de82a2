/- What the texts Ref06, Ref06b, Ref06c, Ref06d show, in one text. -/
import Derived.Test.YtjdbkbbhjiemdaaCupB1
import Derived.Test.YtjdbkbbhjiemdaaOwn
import Derived.Test.YtjdbkbbhjiemdaaMat2
import Derived.Test.YtjdbkbbhjiemdaaCupB8
import Derived.Test.YtjdbkbbhjiemdaaPiece
import Derived.StillTailTactics
/- The document's own answers of layer 6: Find, Right, Then, Back, Do, Same. -/
namespace Go.Proofs.Ytjdbkbbhjiemdaa
open Go.RowKit Go.Maps

/-- the place of a number, or -1 -/
def findZ (p : List Int) (n : Int) : Int := match p.findIdx? fun y => y == n with | some i => (i : Int) | none => -1
theorem findZ_some {p : List Int} {n : Int} {k : Nat} (hk : k < p.length) (h : p.getD k 0 = n) (hl : ∀ j, j < k → p.getD j 0 ≠ n) : findZ p n = k := by
  have e : p.findIdx? (fun y => y == n) = some k := by
    rw [List.findIdx?_eq_some_iff_getElem]
    refine ⟨hk, by simpa [List.getD, hk] using h, fun j hj => ?_⟩
    have := hl j hj
    simpa [List.getD, show j < p.length by omega] using this
  unfold findZ
  rw [e]
theorem findZ_none {p : List Int} {n : Int} (hl : ∀ j, j < p.length → p.getD j 0 ≠ n) : findZ p n = -1 := by
  have e : p.findIdx? (fun y => y == n) = none := by
    rw [List.findIdx?_eq_none_iff]
    intro x hx
    obtain ⟨j, hj, rfl⟩ := List.getElem_of_mem hx
    have := hl j hj
    simpa [List.getD, hj] using this
  unfold findZ
  rw [e]
theorem findZ_mem {p : List Int} {n : Int} : 0 ≤ findZ p n ↔ n ∈ p := by
  unfold findZ
  cases e : p.findIdx? fun y => y == n with
  | none =>
    rw [List.findIdx?_eq_none_iff] at e
    constructor
    · intro h; simp at h
    · intro h; have := e n h; simp at this
  | some i =>
    rw [List.findIdx?_eq_some_iff_getElem] at e
    obtain ⟨hi, h1, _⟩ := e
    constructor
    · intro _
      have : p[i] = n := by simpa using h1
      rw [← this]; exact List.getElem_mem hi
    · intro _; simp
theorem findZ_lt (p : List Int) (n : Int) : -1 ≤ findZ p n ∧ findZ p n < p.length + 1 := by
  unfold findZ
  cases e : p.findIdx? fun y => y == n with
  | none => simp; omega
  | some i =>
    rw [List.findIdx?_eq_some_iff_getElem] at e
    obtain ⟨hi, _⟩ := e
    simp; omega
theorem Ord.findZ {n : Nat} {p : List Int} (h : Ord n p) {k : Nat} (hk : k < n) : findZ p k = atL p k := by
  obtain ⟨i, hi, e⟩ := h.find hk
  rw [findZ_some (k := i) (by rw [h.len]; exact hi) e fun j hj e2 => by
    have := h.inj (by omega) hi (e2.trans e.symm); omega, ← e, h.at_ hi]
/-- is it an order? -/
def ordB (p : List Int) : Bool := decide (0 < p.length) && (decide (p.length ≤ 64) && (List.range p.length).all fun k => decide (0 ≤ Go.Proofs.Ytjdbkbbhjiemdaa.findZ p k))
theorem ordB_iff {p : List Int} : ordB p = true ↔ 0 < p.length ∧ p.length ≤ 64 ∧ Ord p.length p := by
  unfold ordB
  simp only [Bool.and_eq_true, decide_eq_true_eq, List.all_eq_true, List.mem_range]
  exact ⟨fun ⟨h1, h2, h3⟩ => ⟨h1, h2, rfl, fun k hk => findZ_mem.1 (h3 k hk)⟩, fun ⟨h1, h2, h3⟩ => ⟨h1, h2, fun k hk => findZ_mem.2 (h3.has k hk)⟩⟩
theorem Ord.b {n : Nat} {p : List Int} (h : Ord n p) (h0 : 0 < n) (h1 : n ≤ 64) : ordB p = true := ordB_iff.2 ⟨by rw [h.len]; exact h0, by rw [h.len]; exact h1, h.len.symm ▸ h⟩

theorem info_i64p : (Try.prog.info? 3).map (fun i => (i.zero, i.size, i.bytes)) = some (some (.int .i64 0), 1, 8) := by kernel_rfl
/-- a row that a call made reads as its numbers -/
theorem owns_ints {w : World} {base n : Nat} {e : TypeId} {k : IntKind} {v : Value} {xs : List Int} (h : w.ownsRow base e 1 v n (xs.map (Value.int k))) : ∃ a cap, v = .slice a n cap ∧ xs.length = n ∧ Ints k w v xs := by
  have hl : xs.length = n := by have := h.1; simpa using this
  have h0 := h
  obtain ⟨_, ⟨rfl, h1⟩ | ⟨g, cap, cur, rfl, hg, hb, hc1, hc2, hs, ht⟩⟩ := h
  · obtain rfl : n = 0 := by simpa using h1
    obtain rfl : xs = [] := List.eq_nil_of_length_eq_zero hl
    exact ⟨none, 0, rfl, rfl, Ints.nil⟩
  · refine ⟨_, cap, rfl, hl, ⟨some ⟨g, 0, none⟩, cap, by rw [hl], by omega, by unfold maxLen at hc2; omega, fun _ => ⟨g, 0, rfl, Blk.lt (t := e) (cs := cur) hb, fun j hj => ?_⟩⟩⟩
    rw [Nat.zero_add, h0.cellAt j (by omega)]
    simp [hj, List.getD]
/-- what a call answers: whole numbers -/
def RetI (l : List Int) (w : World) (e : Ending) (w' : World) : Prop := ∃ v, e = .returned v ∧ Ints .i64 w' v l ∧ Ext w w'

set_option maxHeartbeats 400000 in
theorem r6Find (v : Value) (p : List Int) (n : Int) (w : World) (hv : Ints .i64 w v p) : Calls Try.prog 51 #[v, .int .i64 n] w (RetD (.int .i64 (findZ p n)) w) := by
  obtain ⟨F, hF⟩ : ∃ F, findZ p n = F := ⟨_, rfl⟩
  have HF := hid hF
  rw [hF]
  obtain ⟨a, cap, rfl, k1, k2, k3⟩ := hv
  have K3 := hid k3
  clear k3 hF
  go_enter Try.func51, Try.ntmps51
  go_wp2_with fail
  go_loopw [5] (fun iv wr => ∃ k : Nat, iv = .int .i64 k ∧ k ≤ p.length ∧ Hid (∀ j, j < k → p.getD j 0 ≠ n) ∧ Drw w wr) (fun iv _ => p.length - (intOf iv).toNat)
  case atStart => exact ⟨0, rfl, Nat.zero_le _, hid (by simp), Drw.refl _⟩
  case round =>
    obtain ⟨k, rfl, hk, hall, hw⟩ := hrel
    by_cases hlt : k < p.length
    · obtain ⟨b, off, rfl, hb, hc⟩ := K3.out (by omega)
      have g1 := (hw.ext.cells _ _ hb).trans (hc k hlt)
      obtain ⟨x, ex⟩ : ∃ x, p.getD k 0 = x := ⟨_, rfl⟩
      rw [ex] at g1
      have Ex := hid ex
      clear hc ex
      by_cases hxy : x = n
      · have b3 : (x == n) = true := by simp [hxy]
        have Hxy := hid hxy
        clear hxy
        go_wp2_with fail
        go_ret
        exact ⟨ret_int (by rw [← HF.out]; exact (findZ_some hlt (Ex.out.trans Hxy.out) hall.out).symm), hw⟩
      · have b3 : (x == n) = false := by simp [hxy]
        have Hxy := hid hxy
        clear hxy
        go_wp2_with fail
        go_roundw
        case rel => exact ⟨k + 1, by go_num, by omega, hid (fun j hj => by
          by_cases e : j = k
          · rw [e, Ex.out]; exact Hxy.out
          · exact hall.out j (by omega)), hw⟩
        case measure => simp [intOf]; omega
    · obtain rfl : p.length = k := by omega
      go_wp2_with fail
      go_ret
      exact ⟨ret_int (by rw [← HF.out]; exact (findZ_none hall.out).symm), hw⟩

end Go.Proofs.Ytjdbkbbhjiemdaa
/- The document's own answers of layer 6: Back, Do, Sign, Same. -/
namespace Go.Proofs.Ytjdbkbbhjiemdaa
open Go.RowKit Go.Maps

/-- how many of the first k stand wrong ahead of the i-th -/
def gtTo (p : List Int) (i k : Nat) : Nat := (p.take k).countP fun x => decide (p.getD i 0 < x)
theorem gtTo_le (p : List Int) (i k : Nat) : gtTo p i k ≤ k := Nat.le_trans List.countP_le_length (by simp; omega)
theorem take_snoc_getD {p : List Int} {k : Nat} (h : k < p.length) : p.take (k + 1) = p.take k ++ [p.getD k 0] := by
  rw [List.take_succ_eq_append_getElem h]; simp [List.getD, h]
theorem gtTo_succ {p : List Int} {i k : Nat} (h : k < p.length) : gtTo p i (k + 1) = gtTo p i k + if p.getD i 0 < p.getD k 0 then 1 else 0 := by
  unfold gtTo
  rw [take_snoc_getD h, List.countP_append, List.countP_cons, List.countP_nil]
  simp
theorem inv_take_succ {p : List Int} {i : Nat} (h : i < p.length) : invL (p.take (i + 1)) = invL (p.take i) + gtTo p i i := by
  rw [take_snoc_getD h, inv_snoc]; rfl
theorem inv_take_le (p : List Int) : ∀ i, i ≤ p.length → invL (p.take i) ≤ i * p.length
  | 0, _ => by simp [invL]
  | i + 1, h => by
    have := inv_take_le p i (by omega)
    have := gtTo_le p i i
    rw [inv_take_succ (by omega), Nat.succ_mul]
    omega
end Go.Proofs.Ytjdbkbbhjiemdaa
/- The document's own answer of layer 6 that puts a matrix's rows in another order: Rows. -/
namespace Go.Proofs.Ytjdbkbbhjiemdaa
open Go.RowKit Go.Maps

/-- a matrix's rows, in another order -/
def rowsL (p : List Int) (c : Nat) (xs : List Int) : List Int := grid p.length c fun i k => xs.getD ((p.getD i 0).toNat * c + k) 0
theorem rowsL_len (p : List Int) (c : Nat) (xs : List Int) : (rowsL p c xs).length = p.length * c := grid_len _ _ _
theorem tab_add {t d : Nat} {G : Nat → Int} {l : List Int} (hl : l.length = d) (h : ∀ j, j < d → l.getD j 0 = G (t + j)) : tab (t + d) G = tab t G ++ l := by
  symm
  refine tab_of (by rw [List.length_append, tab_len, hl]) fun k hk => ?_
  simp only [List.getD, List.getElem?_append, tab_len]
  split
  · rename_i h1
    exact tab_get G h1
  · have := h (k - t) (by omega)
    rwa [show t + (k - t) = k by omega] at this
/-- a slice's numbers as cells that are appended -/
theorem ints_news {k : IntKind} {w : World} {ad : Addr} {m c : Nat} {l : List Int} (h : Ints k w (.slice (some ad) m c) l) : ∀ j u, (l.map (Value.int k))[j]? = some u → w.cell? (ad.add j) = some u := by
  intro j u hj
  obtain ⟨a, cap, e, _, _, h3⟩ := h
  injection e with e1 _ _
  subst e1
  have hjl : j < l.length := by
    rcases Nat.lt_or_ge j l.length with h | h
    · exact h
    · rw [List.getElem?_eq_none (by simpa using h)] at hj; cases hj
  obtain ⟨b, off, e, hb, hcell⟩ := h3 (by omega)
  injection e with e
  subst e
  rw [show ((⟨b, off, none⟩ : Addr).add j) = ⟨b, off + j, none⟩ from Go.WideShapes.add_plain _ _ _, hcell j hjl]
  rw [List.getElem?_map, List.getElem?_eq_getElem hjl] at hj
  simp only [Option.map_some, Option.some.injEq] at hj
  rw [← hj]
  simp [List.getD, List.getElem?_eq_getElem hjl]
theorem ints_one {k : IntKind} {l : List Int} : ∀ u ∈ l.map (Value.int k), u.oneCell' = true := by
  intro u hu
  obtain ⟨q, _, rfl⟩ := List.mem_map.1 hu
  rfl
/-- numbers are appended, and the box told -/
theorem Bld.more {w0 w w' : World} {h base : Nat} {r c : Int} {rv v' : Value} {t t' : Nat} {G : Nat → Int} (b : Bld w0 w h base r c rv t G) (hown : w'.ownsRow base 22 1 v' t' ((tab t' G).map (Value.int .u64))) (hg : w.grownBy w' rv.ownBlock) :
    Bld w0 (w'.setCell ⟨h, 2, none⟩ v') h base r c v' t' G := by
  have hne : rv.ownBlock ≠ some h := by
    rcases ownsRow_blk b.own b.box (by decide) with e | e
    · rw [e]; simp
    · exact e
  have hb := b.box.grown hg hne
  have hne2 : v'.ownBlock ≠ some h := by
    rcases ownsRow_blk hown hb (by decide) with e | e
    · rw [e]; simp
    · exact e
  exact ⟨hb.set_ 2 v', hown.kept (setCell_grown _ _ _) (.inr hne2), (b.ext.grown hg fun k e => Nat.le_trans b.hb (b.own.lt k e).1).setCell b.hh _, b.hb, b.hh⟩

end Go.Proofs.Ytjdbkbbhjiemdaa
/- The document's own answer of layer 6 on rings: Rings; rows of rows of whole numbers. -/
namespace Go.Proofs.Ytjdbkbbhjiemdaa
open Go.RowKit Go.Maps

/-- in the world w the slice v reads as rows of whole numbers -/
def IntsL (w : World) (v : Value) (ls : List (List Int)) : Prop :=
  ∃ (a : Option Addr) (cap : Nat), v = .slice a ls.length cap ∧ ls.length ≤ cap ∧ cap ≤ 9223372036854775807 ∧
    (0 < ls.length → ∃ b off, a = some ⟨b, off, none⟩ ∧ b < w.heap.size ∧ ∀ j, j < ls.length → ∃ u, w.cell? ⟨b, off + j, none⟩ = some u ∧ Ints .i64 w u (ls.getD j []))
theorem IntsL.ext {w w' : World} {v : Value} {ls : List (List Int)} (h : IntsL w v ls) (he : Ext w w') : IntsL w' v ls := by
  obtain ⟨a, cap, h1, h2, h3, h4⟩ := h
  refine ⟨a, cap, h1, h2, h3, fun hp => ?_⟩
  obtain ⟨b, off, ha, hb, hc⟩ := h4 hp
  refine ⟨b, off, ha, Nat.lt_of_lt_of_le hb he.size, fun j hj => ?_⟩
  obtain ⟨u, c1, c2⟩ := hc j hj
  exact ⟨u, (he.cells _ _ hb).trans c1, c2.ext he⟩
theorem IntsL.nil {w : World} : IntsL w (.slice none 0 0) [] := ⟨none, 0, rfl, by simp, by omega, by simp⟩
/-- what a call answers: rows of whole numbers -/
def RetII (ls : List (List Int)) (w : World) (e : Ending) (w' : World) : Prop := ∃ v, e = .returned v ∧ IntsL w' v ls ∧ Ext w w'

/-- rows that are gathered: the row of them, and each one's own -/
structure RowsI (w0 w : World) (rv : Value) (us : List Value) (ls : List (List Int)) : Prop where
  own : w.ownsRow w0.heap.size 48 1 rv us.length us
  len : us.length = ls.length
  row : ∀ j, j < ls.length → w.ownsRow w0.heap.size 3 1 (us.getD j undef) (ls.getD j []).length ((ls.getD j []).map (Value.int .i64))
  ext : Ext w0 w
theorem RowsI.start (w : World) : RowsI w w (.slice none 0 0) [] [] := ⟨World.ownsRow_nil _ _ _ _, rfl, fun _ h => absurd h (Nat.not_lt_zero _), Ext.refl _⟩
theorem RowsI.ext' {w0 w w' : World} {rv : Value} {us : List Value} {ls : List (List Int)} (h : RowsI w0 w rv us ls) (y : Ext w w') : RowsI w0 w' rv us ls :=
  ⟨ownsRow_ext h.own y, h.len, fun j hj => ownsRow_ext (h.row j hj) y, h.ext.trans y⟩
/-- a row of another kind grows: all stays -/
theorem RowsI.grown {w0 w w' : World} {rv v : Value} {us xs : List Value} {ls : List (List Int)} (h : RowsI w0 w rv us ls) {base n : Nat} (hv : w.ownsRow base 3 1 v n xs) (hb : w0.heap.size ≤ base)
    (ha : ∀ j, j < ls.length → (us.getD j undef).ownBlock = none ∨ (us.getD j undef).ownBlock ≠ v.ownBlock) (hg : w.grownBy w' v.ownBlock) : RowsI w0 w' rv us ls :=
  ⟨h.own.kept hg (ownsRow_apart h.own hv (by decide)), h.len, fun j hj => (h.row j hj).kept hg (ha j hj), h.ext.grown hg fun k e => Nat.le_trans hb (hv.lt k e).1⟩
theorem getD_snoc {α : Type} (l : List α) (x d : α) (j : Nat) : (l ++ [x]).getD j d = if j < l.length then l.getD j d else if j = l.length then x else d := by
  simp only [List.getD, List.getElem?_append]
  split
  · rfl
  · split
    · rename_i h; rw [h, Nat.sub_self]; rfl
    · rw [List.getElem?_eq_none (by simp; omega)]; rfl
/-- a row is put behind -/
theorem RowsI.next {w0 w w' : World} {rv v' u : Value} {us : List Value} {ls : List (List Int)} {l : List Int} (h : RowsI w0 w rv us ls) (hu : w.ownsRow w0.heap.size 3 1 u l.length (l.map (Value.int .i64)))
    (ho : w'.ownsRow w0.heap.size 48 1 v' (us.length + 1) (us ++ [u])) (hg : w.grownBy w' rv.ownBlock) : RowsI w0 w' v' (us ++ [u]) (ls ++ [l]) := by
  refine ⟨by rw [List.length_append]; exact ho, by simp [h.len], fun j hj => ?_, h.ext.grown hg fun k e => (h.own.lt k e).1⟩
  have hlen := h.len
  rw [List.length_append, List.length_cons, List.length_nil] at hj
  rw [getD_snoc, getD_snoc]
  by_cases e : j < ls.length
  · rw [if_pos (by omega), if_pos e]
    exact (h.row j e).kept hg (ownsRow_apart (h.row j e) h.own (by decide))
  · rw [if_neg (by omega), if_neg e, if_pos (by omega), if_pos (by omega)]
    exact hu.kept hg (ownsRow_apart hu h.own (by decide))
theorem RowsI.ints {w0 w : World} {rv : Value} {us : List Value} {ls : List (List Int)} (h : RowsI w0 w rv us ls) : IntsL w rv ls := by
  have hlen := h.len
  have ho := h.own
  obtain ⟨_, ⟨rfl, h1⟩ | ⟨g, cap, cur, rfl, hg, hb, hc1, hc2, hs, ht⟩⟩ := h.own
  · obtain rfl : ls = [] := List.eq_nil_of_length_eq_zero (by omega)
    exact IntsL.nil
  · refine ⟨_, cap, by rw [hlen], by omega, by unfold maxLen at hc2; omega, fun _ => ⟨g, 0, rfl, Blk.lt (t := 48) (cs := cur) hb, fun j hj => ⟨us.getD j undef, ?_, ?_⟩⟩⟩
    · rw [Nat.zero_add, ho.cellAt j (by omega), List.getD, List.getElem?_eq_getElem (show j < us.length by omega)]; rfl
    · obtain ⟨_, _, _, _, hI⟩ := owns_ints (h.row j hj)
      exact hI
theorem info_sip : (Try.prog.info? 48).map (fun i => (i.zero, i.size, i.bytes)) = some (some (.slice none 0 0), 1, 24) := by kernel_rfl

/-- the least of the first so many of a ring? -/
def leastTo (p : List Int) (s j : Nat) : Bool := (List.range j).all fun i => decide (s ≤ itL p i s)
theorem leastTo_succ (p : List Int) (s j : Nat) : leastTo p s (j + 1) = (leastTo p s j && decide (s ≤ itL p j s)) := by
  unfold leastTo
  rw [List.range_succ, List.all_append]
  simp
theorem leastTo_all (p : List Int) (s : Nat) : leastTo p s (perL p s) = leastB p s := by
  unfold leastTo leastB ringL tab
  rw [List.all_map]
  congr 1
  funext i
  simp [Function.comp]
theorem ringsTo_none {p : List Int} {k : Nat} (h : leastB p k = false) : ringsTo p (k + 1) = ringsTo p k := by rw [ringsTo_succ, h]; rfl
theorem ringsTo_some {p : List Int} {k : Nat} (h : leastB p k = true) : ringsTo p (k + 1) = ringsTo p k ++ [ringL p k] := by rw [ringsTo_succ, h]; rfl

def lenV : Value → Nat
  | .slice _ n _ => n
  | _ => 0
end Go.Proofs.Ytjdbkbbhjiemdaa
