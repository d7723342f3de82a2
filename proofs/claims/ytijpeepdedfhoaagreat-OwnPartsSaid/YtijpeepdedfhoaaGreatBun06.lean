/- What the texts Row, SlEq, Join, RetT, Grid show, in one text. -/
import Derived.Test.YtijpeepdedfhoaaGreatBun05
import Derived.Test.YtijpeepdedfhoaaGreatPKit
import Derived.Laws.CopyOwn
/- Rows of numbers that a call made and may write; sums and differences place by place. -/
namespace Go.Proofs.YtijpeepdedfhoaaGreat
open Go.RowKit

/-- the numbers xs lie in block g from off on, and may be written -/
def WRow (w : World) (g off : Nat) (xs : List Int) : Prop :=
  g < w.heap.size ∧ ∀ j, j < xs.length → w.cell? ⟨g, off + j, none⟩ = some (.int .u64 (xs.getD j 0)) ∧ w.frozen? ⟨g, off + j, none⟩ = false
theorem WRow.ext {w w' : World} {g off : Nat} {xs : List Int} (h : WRow w g off xs) (he : Ext w w') : WRow w' g off xs :=
  ⟨Nat.lt_of_lt_of_le h.1 he.size, fun j hj => ⟨(he.cells _ _ h.1).trans (h.2 j hj).1, by rw [Below.frozen (p := ⟨g, off + j, none⟩) he h.1]; exact (h.2 j hj).2⟩⟩
theorem set_get (xs : List Int) (i j : Nat) (x : Int) (hi : i < xs.length) : (xs.set i x).getD j 0 = if i = j then x else xs.getD j 0 := by
  simp only [List.getD, List.getElem?_set]
  split
  · rename_i e
    subst e
    simp
  · rfl
theorem WRow.set_ {w : World} {g off : Nat} {xs : List Int} (h : WRow w g off xs) {i : Nat} (hi : i < xs.length) (x : Int) : WRow (w.setCell ⟨g, off + i, none⟩ (.int .u64 x)) g off (xs.set i x) := by
  refine ⟨by simpa [World.setCell] using h.1, fun j hj => ?_⟩
  rw [List.length_set] at hj
  rw [World.frozen?_setCell, set_get xs i j x hi]
  refine ⟨?_, (h.2 j hj).2⟩
  split
  · rename_i e
    subst e
    exact World.cell?_setCell_same _ _ _ (h.2 i hi).1
  · rename_i e
    refine (World.cell?_setCell_other _ _ _ _ (by intro e'; injection e' with _ e2; omega)).trans (h.2 j hj).1
theorem WRow.ints {w : World} {g off cap : Nat} {xs : List Int} (h : WRow w g off xs) (h1 : xs.length ≤ cap) (h2 : cap ≤ 9223372036854775807) : Ints .u64 w (.slice (some ⟨g, off, none⟩) xs.length cap) xs :=
  Ints.mk h1 h2 h.1 fun j hj => (h.2 j hj).1
theorem WRow.ints' {w : World} {g off cap n : Nat} {xs : List Int} (h : WRow w g off xs) (hn : xs.length = n) (h1 : n ≤ cap) (h2 : cap ≤ 9223372036854775807) : Ints .u64 w (.slice (some ⟨g, off, none⟩) n cap) xs := by
  subst hn; exact h.ints h1 h2
theorem WRow.of_blk {w : World} {g : Nat} {t : TypeId} {xs : List Int} {rest : List Value} (h : Blk w g t ((xs.map (Value.int .u64)) ++ rest).toArray) : WRow w g 0 xs :=
  ⟨h.lt, fun j hj => by
    rw [Nat.zero_add, h.cell j]
    exact ⟨by simp [List.getElem?_append, hj, List.getD], h.frozen j⟩⟩
theorem WRow.made {w : World} {t : TypeId} {g n : Nat} (hg : g = w.heap.size) : WRow (w.alloc (.cells (madeCells #[Value.int .u64 0] n) t)) g 0 (List.replicate n 0) := by
  subst hg
  refine WRow.of_blk (t := t) (rest := []) ?_
  have e : (madeCells #[Value.int .u64 0] n) = ((List.replicate n 0).map (Value.int .u64) ++ []).toArray := by
    simp [madeCells]
    apply Array.ext
    · simp
    · intro i h1 h2
      simp [Nat.mod_one]
  rw [← e]
  exact Blk.new w t _
/-- what a call answers: a polynomial, in memory of its own or in what was there -/
def RetP (p : Int) (f : Ser p) (w : World) (e : Ending) (w' : World) : Prop := ∃ v zs, e = .returned v ∧ Ints .u64 w' v zs ∧ Pol p zs ∧ pol p zs = f ∧ Ext w w'
theorem replicate_get (n j : Nat) : (List.replicate n (0 : Int)).getD j 0 = 0 := by
  simp only [List.getD, List.getElem?_replicate]
  split <;> rfl
theorem pad_get (xs : List Int) (m j : Nat) : (xs ++ List.replicate m 0).getD j 0 = xs.getD j 0 := by
  rcases Nat.lt_or_ge j xs.length with h | h
  · simp [List.getD, List.getElem?_append, h]
  · rw [getD_over h]
    simp only [List.getD, List.getElem?_append, if_neg (Nat.not_lt.2 h), List.getElem?_replicate]
    split <;> rfl
theorem splice_pad {xs : List Int} {n : Nat} : splice ((List.replicate n (0 : Int)).map (Value.int .u64)) 0 (xs.map (Value.int .u64)) = (xs ++ List.replicate (n - xs.length) 0).map (Value.int .u64) := by
  simp [splice, List.drop_replicate]
end Go.Proofs.YtijpeepdedfhoaaGreat
/- slices.Equal of numbers. -/
namespace Go.Proofs.YtijpeepdedfhoaaGreat
open Go.RowKit

set_option maxHeartbeats 1000000 in
theorem equal_any (v u : Value) (xs ys : List Int) (w : World) (hv : Ints .u64 w v xs) (hu : Ints .u64 w u ys) :
    Calls Tryz.prog 35 #[v, u] w (Ret (.bool (decide (xs = ys))) w) := by
  obtain ⟨a, cap, rfl, h1, h2, h3⟩ := hv
  obtain ⟨a', cap', rfl, k1, k2, k3⟩ := hu
  have H3 := hid h3; have K3 := hid k3
  clear h3 k3
  obtain ⟨D, hD⟩ : ∃ D, decide (xs = ys) = D := ⟨_, rfl⟩
  rw [hD]
  by_cases hl : xs.length = ys.length
  · have b1 : ((xs.length : Int) != (ys.length : Int)) = false := by rw [hl]; simp
    have HD := hid hD
    have Hl := hid hl
    obtain ⟨L, hL⟩ : ∃ L, ys.length = L := ⟨_, rfl⟩
    have HL := hid hL
    rw [hl] at H3 h1 b1 ⊢
    rw [hL] at H3 K3 h1 k1 b1 ⊢
    clear hl hL hD
    go_enter Tryz.func35, Tryz.ntmps35
    go_wp2_with fail
    go_loopw [13] (fun i wr => ∃ k : Nat, i = .int .i64 k ∧ k ≤ L ∧ Hid (∀ j, j < k → xs.getD j 0 = ys.getD j 0) ∧ Ext w wr) (fun i _ => L - (intOf i).toNat)
    case atStart => exact ⟨0, rfl, Nat.zero_le _, hid (by simp), (by repeat (first | exact Ext.refl _ | assumption | refine Ext.drew ?_ | refine Ext.drewN ?_ _ | refine Ext.alloc ?_ _ | refine Ext.trans ?_ (by assumption)))⟩
    case round =>
      obtain ⟨k, rfl, hk, hall, hw⟩ := hrel
      by_cases hlt : k < L
      · obtain ⟨b, off, rfl, hb, hc⟩ := H3.out (by omega)
        obtain ⟨b', off', rfl, hb', hc'⟩ := K3.out (by omega)
        have g1 := (hw.cells _ _ hb).trans (hc k hlt)
        have g2 := (hw.cells _ _ hb').trans (hc' k hlt)
        obtain ⟨x, ex⟩ : ∃ x, xs.getD k 0 = x := ⟨_, rfl⟩
        obtain ⟨y, ey⟩ : ∃ y, ys.getD k 0 = y := ⟨_, rfl⟩
        rw [ex] at g1; rw [ey] at g2
        have Ex := hid ex; have Ey := hid ey
        clear hc hc' ex ey
        by_cases hxy : x = y
        · have b3 : (x != y) = false := by simp [hxy]
          have Hxy := hid hxy
          clear hxy
          go_wp2_with fail
          go_quiet (fail)
          go_wp2_with fail
          go_roundw
          case rel => exact ⟨k + 1, by go_num, by omega, hid (fun j hj => by
            by_cases e : j = k
            · rw [e, Ex.out, Ey.out]; exact Hxy.out
            · exact hall.out j (by omega)), hw.drewN _⟩
          case measure => simp [intOf]; omega
        · have b3 : (x != y) = true := by simp [hxy]
          have Hxy := hid hxy
          clear hxy
          go_wp2_with fail
          go_quiet (fail)
          go_wp2_with fail
          go_ret
          refine ⟨ret_bool ?_, hw.drewN _⟩
          rw [← HD.out]
          symm
          exact decide_eq_false (fun e => Hxy.out (by rw [← Ex.out, ← Ey.out, e]))
      · obtain rfl : L = k := by omega
        go_wp2_with fail
        go_ret
        refine ⟨ret_bool ?_, hw⟩
        rw [← HD.out]
        symm
        exact decide_eq_true (list_ext Hl.out fun j hj => hall.out j (by rw [← HL.out, ← Hl.out]; exact hj))
  · have b1 : ((xs.length : Int) != (ys.length : Int)) = true := by simp; omega
    have e : D = false := by rw [← hD]; exact decide_eq_false (fun e => hl (by rw [e]))
    subst e
    clear hl hD
    go_enter Tryz.func35, Tryz.ntmps35
    go_wp2_with fail
    go_ret
    exact ⟨rfl, (by repeat (first | exact Ext.refl _ | assumption | refine Ext.drew ?_ | refine Ext.drewN ?_ _ | refine Ext.alloc ?_ _ | refine Ext.trans ?_ (by assumption)))⟩
end Go.Proofs.YtijpeepdedfhoaaGreat
/- Sums and differences of polynomials, place by place. -/
namespace Go.Proofs.YtijpeepdedfhoaaGreat
open Go.RowKit

set_option maxRecDepth 100000 in
set_option maxHeartbeats 1000000 in
theorem joined_plus (p : Int) (v u : Value) (xs ys : List Int) (w : World) (hp : rightB p = true) (hv : Ints .u64 w v xs) (hu : Ints .u64 w u ys) (hx : Rng p xs) (hy : Rng p ys) (hl : xs.length ≤ 1000000 ∧ ys.length ≤ 1000000) :
    Calls Tryz.prog 77 #[.func (.func 48) #[.int .u64 p] #[], v, u] w (RetP p (pol p xs + pol p ys) w) := by
  have hp2 := rightB_true hp
  obtain ⟨a, cap, rfl, hc1, hc2, hc⟩ := hv
  obtain ⟨a', cap', rfl, hd1, hd2, hd⟩ := hu
  have Hc := hid hc; have Hd := hid hd; have Hx := hid hx; have Hy := hid hy; have Hp := hid hp
  clear hc hd hp
  obtain ⟨la, hla⟩ : ∃ la, xs.length = la := ⟨_, rfl⟩
  obtain ⟨lb, hlb⟩ : ∃ lb, ys.length = lb := ⟨_, rfl⟩
  obtain ⟨n, hn⟩ : ∃ n, max la lb = n := ⟨_, rfl⟩
  have hxn : xs.length ≤ n := by omega
  have hyn : ys.length ≤ n := by omega
  have Hxn := hid hxn; have Hyn := hid hyn
  have hsrc : 0 < la → ∃ ad, a = some ad ∧ ∀ j x, (xs.map (Value.int .u64))[j]? = some x → ∀ w', Ext w w' → w'.cell? (ad.add j) = some x := fun h0 => by
    obtain ⟨b, off, rfl, hb, hcell⟩ := Hc.out (by omega)
    refine ⟨_, rfl, fun j x hj w' he => ?_⟩
    have hjl : j < xs.length := by
      rcases Nat.lt_or_ge j xs.length with h | h
      · exact h
      · rw [List.getElem?_eq_none (by simpa using h)] at hj; cases hj
    rw [show ((⟨b, off, none⟩ : Addr).add j) = ⟨b, off + j, none⟩ from Go.WideShapes.add_plain _ _ _, he.cells _ _ hb, hcell j hjl]
    rw [List.getElem?_map, List.getElem?_eq_getElem hjl] at hj
    simp only [Option.map_some, Option.some.injEq] at hj
    rw [← hj]
    simp [List.getD, List.getElem?_eq_getElem hjl]
  have Hsrc := hid hsrc
  clear hsrc
  obtain ⟨cs, hcs⟩ : ∃ cs, xs.map (Value.int .u64) = cs := ⟨_, rfl⟩
  have hcl : cs.length = la := by rw [← hcs, List.length_map, hla]
  have Hone : Hid (∀ x ∈ cs, x.oneCell' = true) := hid (by
    rw [← hcs]
    intro x hx
    obtain ⟨y, _, rfl⟩ := List.mem_map.1 hx
    rfl)
  obtain ⟨cur, hcur⟩ : ∃ cur, (List.replicate n (0 : Int)).map (Value.int .u64) = cur := ⟨_, rfl⟩
  have hcurl : cur.length = n := by rw [← hcur]; simp
  have Hmade : Hid ((madeCells #[Value.int .u64 0] n) = cur.toArray) := hid (by
    rw [← hcur]
    simp [madeCells]
    apply Array.ext
    · simp
    · intro i h1 h2
      simp [Nat.mod_one])
  have Hcs := hid hcs; have Hcur := hid hcur
  rw [hcs] at Hsrc
  have hmk := make_ints (P := Tryz.prog) 23 22 .u64 8 (by omega) (by kernel_rfl) (by kernel_rfl) n n (Nat.le_refl _) (by omega)
  rw [hla] at hc1 ⊢
  rw [hlb] at hd1 ⊢
  rw [hla] at hxn
  rw [hlb] at hyn
  have Hla := hid hla; have Hlb := hid hlb
  rw [hla, hlb] at hl
  rw [hlb] at Hd
  have hnm : n ≤ 1000000 := by omega
  clear hx hy hcs hcur hla hlb
  have hmin : cs.length = Nat.min la n := by rw [hcl]; exact (Nat.min_eq_left hxn).symm
  have Hmin := hid hmin
  clear hmin
  have hcase : (la < n ∧ n = lb) ∨ (lb ≤ n ∧ n = la) := by omega
  have hsz : (Tryz.prog.info? 22).map (·.size) = some 1 := by kernel_rfl
  have Hn := hid hn
  clear hn
  rw [Hmade.out] at hmk
  rcases hcase with ⟨h1, rfl⟩ | ⟨h1, rfl⟩
  · go_enter Tryz.func77, Tryz.ntmps77
    go_wp2_with ((with_reducible show wpList _ _ _ _ _ _); refine wpList_copy_splice (o := ⟨some 18, _, _, _, _, _⟩) rfl (.tmp 16) (.tmp 17) 23 23 rfl 22 Tryz.underlying23 hsz _ _ _ _ _ _ rfl rfl w.heap.size 0 cur 22 (heap_alloc_new w _) cs Hmin.out (fun h => ⟨rfl, by obtain ⟨ad, e, he⟩ := Hsrc.out (by omega); exact ⟨ad, e, fun j x hj => he j x hj _ ((Ext.refl w).alloc _)⟩⟩) (by omega) Hone.out w.heap.size w ((Ext.refl w).alloc _) (Nat.le_refl _) ?_; intro w2 HG2 hB2)
    have hrow : WRow w2 w.heap.size 0 (xs ++ List.replicate (n - xs.length) 0) := WRow.of_blk (t := 22) (rest := []) (by
      have := HG2.out
      rw [← Hcur.out, ← Hcs.out, splice_pad] at this
      rw [List.append_nil]
      exact this)
    have hx0 : Ext w w2 := hB2
    clear HG2
    obtain ⟨g, hg⟩ : ∃ g, w.heap.size = g := ⟨_, rfl⟩
    have hgw : w.heap.size ≤ g := by omega
    rw [hg] at hrow ⊢
    clear hg hB2
    have hpad : (xs ++ List.replicate (n - xs.length) (0 : Int)).length = n := by simp; have := Hxn.out; omega
    have Hrow := hid hrow
    have Hpad := hid hpad
    clear hrow hpad
    go_wp2_with fail
    go_loopw [21] (fun i wr => ∃ (k : Nat) (l : List Int), i = .int .i64 k ∧ k ≤ n ∧ Hid (l.length = n) ∧ Hid (∀ j, l.getD j 0 = if j < k then (xs.getD j 0 + ys.getD j 0) % p else xs.getD j 0) ∧ WRow wr g 0 l ∧ Ext w wr) (fun i _ => n - (intOf i).toNat)
    case atStart => exact ⟨0, _, rfl, Nat.zero_le _, Hpad, hid (fun j => by rw [pad_get]; simp), Hrow.out, hx0⟩
    case round =>
      obtain ⟨k, l, rfl, hk, hln, hl2, hrw, hxw⟩ := hrel
      clear hx0 Hrow
      have Hrw := hid hrw
      clear hrw
      by_cases hlt : k < n
      · obtain ⟨b, off, rfl, hb, hcell⟩ := Hd.out (by omega)
        have g1 := (hxw.cells _ _ hb).trans (hcell k hlt)
        have r1 := Hy.out.get (k := k) (by rw [Hlb.out]; exact hlt)
        have r2 := Hx.out.getD hp2.1 k
        have g2 := (Hrw.out.2 k (by rw [hln.out]; omega)).1
        have f2 := (Hrw.out.2 k (by rw [hln.out]; omega)).2
        rw [Nat.zero_add, hl2.out, if_neg (Nat.lt_irrefl _)] at g2
        rw [Nat.zero_add] at f2
        obtain ⟨y, ey⟩ : ∃ y, ys.getD k 0 = y := ⟨_, rfl⟩
        obtain ⟨x, ex⟩ : ∃ x, xs.getD k 0 = x := ⟨_, rfl⟩
        rw [ey] at g1 r1; rw [ex] at g2 r2
        obtain ⟨r, er, r3, r4⟩ := name_mod (p := p) (x + y) hp2.1
        have Ey := hid ey; have Ex := hid ex; have Er := hid er
        clear hcell ey ex er
        go_wp2_with fail
        refine (plus_any p x y _ Hp.out r2.1 r2.2 r1.1 r1.2).mono ?_; rintro _ w3 ⟨rfl, h3⟩
        have g3 := (Hrw.out.ext h3).2 k (by rw [hln.out]; omega)
        rw [Nat.zero_add] at g3
        have g4 := g3.1
        have f4 := g3.2
        have hs := hid ((Hrw.out.ext h3).set_ (i := k) (by rw [hln.out]; omega) r)
        rw [Nat.zero_add] at hs
        rw [Er.out]
        clear g3
        go_wp2_with fail
        go_roundw
        case rel => exact ⟨k + 1, l.set k r, by go_num, by omega, hid (by rw [List.length_set]; exact hln.out), hid (fun j => by
          rw [set_get l k j r (by rw [hln.out]; omega), hl2.out]
          by_cases e : k = j
          · subst e
            rw [if_pos rfl, if_pos (by omega), Ex.out, Ey.out, Er.out]
          · rw [if_neg e]
            by_cases e2 : j < k
            · rw [if_pos e2, if_pos (by omega)]
            · rw [if_neg e2, if_neg (by omega)]), hs.out, (hxw.trans h3).setCell hgw _⟩
        case measure => simp [intOf]; omega
      · obtain rfl : n = k := by omega
        have hi := Hrw.out.ints' hln.out (Nat.le_refl n) (by omega)
        have ht := trimmed_any (some ⟨g, 0, none⟩) n l _ (by rw [hln.out]; exact hi)
        rw [hln.out] at ht
        have Ht := hid ht
        have Hi := hid hi
        clear ht hi
        go_wp2_with (go_at_call 63; refine Ht.out.mono ?_; rintro _ _ ⟨rfl, rfl⟩)
        go_ret
        have hrng : Rng p l := Rng.of_get fun j hj => by
          rw [hl2.out]
          split
          · exact mod_range _ hp2.1
          · exact Hx.out.getD hp2.1 j
        have htl : trimN l n = trimN l l.length := by rw [hln.out]
        refine ⟨_, trimL l, rfl, ?_, (trimL_pol hrng).1, (trimL_pol hrng).2.trans (Ser.ext_ fun j => ?_), hxw⟩
        · rw [htl]
          exact (Hi.out.take' _ (by rw [← htl, hln.out]; exact trimN_le _ _))
        · rw [hrng.co, hl2.out, Ser.add_co, Hx.out.co, Hy.out.co]
          split
          · rfl
          · rw [getD_over (xs := ys) (by rw [Hlb.out]; omega), Int.add_zero, mod_small (Hx.out.getD hp2.1 j).1 (Hx.out.getD hp2.1 j).2]
  · go_enter Tryz.func77, Tryz.ntmps77
    go_wp2_with ((with_reducible show wpList _ _ _ _ _ _); refine wpList_copy_splice (o := ⟨some 18, _, _, _, _, _⟩) rfl (.tmp 16) (.tmp 17) 23 23 rfl 22 Tryz.underlying23 hsz _ _ _ _ _ _ rfl rfl w.heap.size 0 cur 22 (heap_alloc_new w _) cs Hmin.out (fun h => ⟨rfl, by obtain ⟨ad, e, he⟩ := Hsrc.out (by omega); exact ⟨ad, e, fun j x hj => he j x hj _ ((Ext.refl w).alloc _)⟩⟩) (by omega) Hone.out w.heap.size w ((Ext.refl w).alloc _) (Nat.le_refl _) ?_; intro w2 HG2 hB2)
    have hrow : WRow w2 w.heap.size 0 (xs ++ List.replicate (n - xs.length) 0) := WRow.of_blk (t := 22) (rest := []) (by
      have := HG2.out
      rw [← Hcur.out, ← Hcs.out, splice_pad] at this
      rw [List.append_nil]
      exact this)
    have hx0 : Ext w w2 := hB2
    clear HG2
    obtain ⟨g, hg⟩ : ∃ g, w.heap.size = g := ⟨_, rfl⟩
    have hgw : w.heap.size ≤ g := by omega
    rw [hg] at hrow ⊢
    clear hg hB2
    have hpad : (xs ++ List.replicate (n - xs.length) (0 : Int)).length = n := by simp; have := Hxn.out; omega
    have Hrow := hid hrow
    have Hpad := hid hpad
    clear hrow hpad
    go_wp2_with fail
    go_loopw [21] (fun i wr => ∃ (k : Nat) (l : List Int), i = .int .i64 k ∧ k ≤ lb ∧ Hid (l.length = n) ∧ Hid (∀ j, l.getD j 0 = if j < k then (xs.getD j 0 + ys.getD j 0) % p else xs.getD j 0) ∧ WRow wr g 0 l ∧ Ext w wr) (fun i _ => lb - (intOf i).toNat)
    case atStart => exact ⟨0, _, rfl, Nat.zero_le _, Hpad, hid (fun j => by rw [pad_get]; simp), Hrow.out, hx0⟩
    case round =>
      obtain ⟨k, l, rfl, hk, hln, hl2, hrw, hxw⟩ := hrel
      clear hx0 Hrow
      have Hrw := hid hrw
      clear hrw
      by_cases hlt : k < lb
      · obtain ⟨b, off, rfl, hb, hcell⟩ := Hd.out (by omega)
        have g1 := (hxw.cells _ _ hb).trans (hcell k hlt)
        have r1 := Hy.out.get (k := k) (by rw [Hlb.out]; exact hlt)
        have r2 := Hx.out.getD hp2.1 k
        have g2 := (Hrw.out.2 k (by rw [hln.out]; omega)).1
        have f2 := (Hrw.out.2 k (by rw [hln.out]; omega)).2
        rw [Nat.zero_add, hl2.out, if_neg (Nat.lt_irrefl _)] at g2
        rw [Nat.zero_add] at f2
        obtain ⟨y, ey⟩ : ∃ y, ys.getD k 0 = y := ⟨_, rfl⟩
        obtain ⟨x, ex⟩ : ∃ x, xs.getD k 0 = x := ⟨_, rfl⟩
        rw [ey] at g1 r1; rw [ex] at g2 r2
        obtain ⟨r, er, r3, r4⟩ := name_mod (p := p) (x + y) hp2.1
        have Ey := hid ey; have Ex := hid ex; have Er := hid er
        clear hcell ey ex er
        go_wp2_with fail
        refine (plus_any p x y _ Hp.out r2.1 r2.2 r1.1 r1.2).mono ?_; rintro _ w3 ⟨rfl, h3⟩
        have g3 := (Hrw.out.ext h3).2 k (by rw [hln.out]; omega)
        rw [Nat.zero_add] at g3
        have g4 := g3.1
        have f4 := g3.2
        have hs := hid ((Hrw.out.ext h3).set_ (i := k) (by rw [hln.out]; omega) r)
        rw [Nat.zero_add] at hs
        rw [Er.out]
        clear g3
        go_wp2_with fail
        go_roundw
        case rel => exact ⟨k + 1, l.set k r, by go_num, by omega, hid (by rw [List.length_set]; exact hln.out), hid (fun j => by
          rw [set_get l k j r (by rw [hln.out]; omega), hl2.out]
          by_cases e : k = j
          · subst e
            rw [if_pos rfl, if_pos (by omega), Ex.out, Ey.out, Er.out]
          · rw [if_neg e]
            by_cases e2 : j < k
            · rw [if_pos e2, if_pos (by omega)]
            · rw [if_neg e2, if_neg (by omega)]), hs.out, (hxw.trans h3).setCell hgw _⟩
        case measure => simp [intOf]; omega
      · obtain rfl : lb = k := by omega
        have hi := Hrw.out.ints' hln.out (Nat.le_refl n) (by omega)
        have ht := trimmed_any (some ⟨g, 0, none⟩) n l _ (by rw [hln.out]; exact hi)
        rw [hln.out] at ht
        have Ht := hid ht
        have Hi := hid hi
        clear ht hi
        go_wp2_with (go_at_call 63; refine Ht.out.mono ?_; rintro _ _ ⟨rfl, rfl⟩)
        go_ret
        have hrng : Rng p l := Rng.of_get fun j hj => by
          rw [hl2.out]
          split
          · exact mod_range _ hp2.1
          · exact Hx.out.getD hp2.1 j
        have htl : trimN l n = trimN l l.length := by rw [hln.out]
        refine ⟨_, trimL l, rfl, ?_, (trimL_pol hrng).1, (trimL_pol hrng).2.trans (Ser.ext_ fun j => ?_), hxw⟩
        · rw [htl]
          exact (Hi.out.take' _ (by rw [← htl, hln.out]; exact trimN_le _ _))
        · rw [hrng.co, hl2.out, Ser.add_co, Hx.out.co, Hy.out.co]
          split
          · rfl
          · rw [getD_over (xs := ys) (by rw [Hlb.out]; omega), Int.add_zero, mod_small (Hx.out.getD hp2.1 j).1 (Hx.out.getD hp2.1 j).2]

set_option maxRecDepth 100000 in
set_option maxHeartbeats 1000000 in
theorem joined_minus (p : Int) (v u : Value) (xs ys : List Int) (w : World) (hp : rightB p = true) (hv : Ints .u64 w v xs) (hu : Ints .u64 w u ys) (hx : Rng p xs) (hy : Rng p ys) (hl : xs.length ≤ 1000000 ∧ ys.length ≤ 1000000) :
    Calls Tryz.prog 77 #[.func (.func 62) #[.int .u64 p] #[], v, u] w (RetP p (pol p xs - pol p ys) w) := by
  have hp2 := rightB_true hp
  obtain ⟨a, cap, rfl, hc1, hc2, hc⟩ := hv
  obtain ⟨a', cap', rfl, hd1, hd2, hd⟩ := hu
  have Hc := hid hc; have Hd := hid hd; have Hx := hid hx; have Hy := hid hy; have Hp := hid hp
  clear hc hd hp
  obtain ⟨la, hla⟩ : ∃ la, xs.length = la := ⟨_, rfl⟩
  obtain ⟨lb, hlb⟩ : ∃ lb, ys.length = lb := ⟨_, rfl⟩
  obtain ⟨n, hn⟩ : ∃ n, max la lb = n := ⟨_, rfl⟩
  have hxn : xs.length ≤ n := by omega
  have hyn : ys.length ≤ n := by omega
  have Hxn := hid hxn; have Hyn := hid hyn
  have hsrc : 0 < la → ∃ ad, a = some ad ∧ ∀ j x, (xs.map (Value.int .u64))[j]? = some x → ∀ w', Ext w w' → w'.cell? (ad.add j) = some x := fun h0 => by
    obtain ⟨b, off, rfl, hb, hcell⟩ := Hc.out (by omega)
    refine ⟨_, rfl, fun j x hj w' he => ?_⟩
    have hjl : j < xs.length := by
      rcases Nat.lt_or_ge j xs.length with h | h
      · exact h
      · rw [List.getElem?_eq_none (by simpa using h)] at hj; cases hj
    rw [show ((⟨b, off, none⟩ : Addr).add j) = ⟨b, off + j, none⟩ from Go.WideShapes.add_plain _ _ _, he.cells _ _ hb, hcell j hjl]
    rw [List.getElem?_map, List.getElem?_eq_getElem hjl] at hj
    simp only [Option.map_some, Option.some.injEq] at hj
    rw [← hj]
    simp [List.getD, List.getElem?_eq_getElem hjl]
  have Hsrc := hid hsrc
  clear hsrc
  obtain ⟨cs, hcs⟩ : ∃ cs, xs.map (Value.int .u64) = cs := ⟨_, rfl⟩
  have hcl : cs.length = la := by rw [← hcs, List.length_map, hla]
  have Hone : Hid (∀ x ∈ cs, x.oneCell' = true) := hid (by
    rw [← hcs]
    intro x hx
    obtain ⟨y, _, rfl⟩ := List.mem_map.1 hx
    rfl)
  obtain ⟨cur, hcur⟩ : ∃ cur, (List.replicate n (0 : Int)).map (Value.int .u64) = cur := ⟨_, rfl⟩
  have hcurl : cur.length = n := by rw [← hcur]; simp
  have Hmade : Hid ((madeCells #[Value.int .u64 0] n) = cur.toArray) := hid (by
    rw [← hcur]
    simp [madeCells]
    apply Array.ext
    · simp
    · intro i h1 h2
      simp [Nat.mod_one])
  have Hcs := hid hcs; have Hcur := hid hcur
  rw [hcs] at Hsrc
  have hmk := make_ints (P := Tryz.prog) 23 22 .u64 8 (by omega) (by kernel_rfl) (by kernel_rfl) n n (Nat.le_refl _) (by omega)
  rw [hla] at hc1 ⊢
  rw [hlb] at hd1 ⊢
  rw [hla] at hxn
  rw [hlb] at hyn
  have Hla := hid hla; have Hlb := hid hlb
  rw [hla, hlb] at hl
  rw [hlb] at Hd
  have hnm : n ≤ 1000000 := by omega
  clear hx hy hcs hcur hla hlb
  have hmin : cs.length = Nat.min la n := by rw [hcl]; exact (Nat.min_eq_left hxn).symm
  have Hmin := hid hmin
  clear hmin
  have hcase : (la < n ∧ n = lb) ∨ (lb ≤ n ∧ n = la) := by omega
  have hsz : (Tryz.prog.info? 22).map (·.size) = some 1 := by kernel_rfl
  have Hn := hid hn
  clear hn
  rw [Hmade.out] at hmk
  rcases hcase with ⟨h1, rfl⟩ | ⟨h1, rfl⟩
  · go_enter Tryz.func77, Tryz.ntmps77
    go_wp2_with ((with_reducible show wpList _ _ _ _ _ _); refine wpList_copy_splice (o := ⟨some 18, _, _, _, _, _⟩) rfl (.tmp 16) (.tmp 17) 23 23 rfl 22 Tryz.underlying23 hsz _ _ _ _ _ _ rfl rfl w.heap.size 0 cur 22 (heap_alloc_new w _) cs Hmin.out (fun h => ⟨rfl, by obtain ⟨ad, e, he⟩ := Hsrc.out (by omega); exact ⟨ad, e, fun j x hj => he j x hj _ ((Ext.refl w).alloc _)⟩⟩) (by omega) Hone.out w.heap.size w ((Ext.refl w).alloc _) (Nat.le_refl _) ?_; intro w2 HG2 hB2)
    have hrow : WRow w2 w.heap.size 0 (xs ++ List.replicate (n - xs.length) 0) := WRow.of_blk (t := 22) (rest := []) (by
      have := HG2.out
      rw [← Hcur.out, ← Hcs.out, splice_pad] at this
      rw [List.append_nil]
      exact this)
    have hx0 : Ext w w2 := hB2
    clear HG2
    obtain ⟨g, hg⟩ : ∃ g, w.heap.size = g := ⟨_, rfl⟩
    have hgw : w.heap.size ≤ g := by omega
    rw [hg] at hrow ⊢
    clear hg hB2
    have hpad : (xs ++ List.replicate (n - xs.length) (0 : Int)).length = n := by simp; have := Hxn.out; omega
    have Hrow := hid hrow
    have Hpad := hid hpad
    clear hrow hpad
    go_wp2_with fail
    go_loopw [21] (fun i wr => ∃ (k : Nat) (l : List Int), i = .int .i64 k ∧ k ≤ n ∧ Hid (l.length = n) ∧ Hid (∀ j, l.getD j 0 = if j < k then (xs.getD j 0 - ys.getD j 0) % p else xs.getD j 0) ∧ WRow wr g 0 l ∧ Ext w wr) (fun i _ => n - (intOf i).toNat)
    case atStart => exact ⟨0, _, rfl, Nat.zero_le _, Hpad, hid (fun j => by rw [pad_get]; simp), Hrow.out, hx0⟩
    case round =>
      obtain ⟨k, l, rfl, hk, hln, hl2, hrw, hxw⟩ := hrel
      clear hx0 Hrow
      have Hrw := hid hrw
      clear hrw
      by_cases hlt : k < n
      · obtain ⟨b, off, rfl, hb, hcell⟩ := Hd.out (by omega)
        have g1 := (hxw.cells _ _ hb).trans (hcell k hlt)
        have r1 := Hy.out.get (k := k) (by rw [Hlb.out]; exact hlt)
        have r2 := Hx.out.getD hp2.1 k
        have g2 := (Hrw.out.2 k (by rw [hln.out]; omega)).1
        have f2 := (Hrw.out.2 k (by rw [hln.out]; omega)).2
        rw [Nat.zero_add, hl2.out, if_neg (Nat.lt_irrefl _)] at g2
        rw [Nat.zero_add] at f2
        obtain ⟨y, ey⟩ : ∃ y, ys.getD k 0 = y := ⟨_, rfl⟩
        obtain ⟨x, ex⟩ : ∃ x, xs.getD k 0 = x := ⟨_, rfl⟩
        rw [ey] at g1 r1; rw [ex] at g2 r2
        obtain ⟨r, er, r3, r4⟩ := name_mod (p := p) (x - y) hp2.1
        have Ey := hid ey; have Ex := hid ex; have Er := hid er
        clear hcell ey ex er
        go_wp2_with fail
        refine (minus_any p x y _ Hp.out r2.1 r2.2 r1.1 r1.2).mono ?_; rintro _ w3 ⟨rfl, h3⟩
        have g3 := (Hrw.out.ext h3).2 k (by rw [hln.out]; omega)
        rw [Nat.zero_add] at g3
        have g4 := g3.1
        have f4 := g3.2
        have hs := hid ((Hrw.out.ext h3).set_ (i := k) (by rw [hln.out]; omega) r)
        rw [Nat.zero_add] at hs
        rw [Er.out]
        clear g3
        go_wp2_with fail
        go_roundw
        case rel => exact ⟨k + 1, l.set k r, by go_num, by omega, hid (by rw [List.length_set]; exact hln.out), hid (fun j => by
          rw [set_get l k j r (by rw [hln.out]; omega), hl2.out]
          by_cases e : k = j
          · subst e
            rw [if_pos rfl, if_pos (by omega), Ex.out, Ey.out, Er.out]
          · rw [if_neg e]
            by_cases e2 : j < k
            · rw [if_pos e2, if_pos (by omega)]
            · rw [if_neg e2, if_neg (by omega)]), hs.out, (hxw.trans h3).setCell hgw _⟩
        case measure => simp [intOf]; omega
      · obtain rfl : n = k := by omega
        have hi := Hrw.out.ints' hln.out (Nat.le_refl n) (by omega)
        have ht := trimmed_any (some ⟨g, 0, none⟩) n l _ (by rw [hln.out]; exact hi)
        rw [hln.out] at ht
        have Ht := hid ht
        have Hi := hid hi
        clear ht hi
        go_wp2_with (go_at_call 63; refine Ht.out.mono ?_; rintro _ _ ⟨rfl, rfl⟩)
        go_ret
        have hrng : Rng p l := Rng.of_get fun j hj => by
          rw [hl2.out]
          split
          · exact mod_range _ hp2.1
          · exact Hx.out.getD hp2.1 j
        have htl : trimN l n = trimN l l.length := by rw [hln.out]
        refine ⟨_, trimL l, rfl, ?_, (trimL_pol hrng).1, (trimL_pol hrng).2.trans (Ser.ext_ fun j => ?_), hxw⟩
        · rw [htl]
          exact (Hi.out.take' _ (by rw [← htl, hln.out]; exact trimN_le _ _))
        · rw [hrng.co, hl2.out, Ser.sub_co, Hx.out.co, Hy.out.co]
          split
          · rfl
          · rw [getD_over (xs := ys) (by rw [Hlb.out]; omega), Int.sub_zero, mod_small (Hx.out.getD hp2.1 j).1 (Hx.out.getD hp2.1 j).2]
  · go_enter Tryz.func77, Tryz.ntmps77
    go_wp2_with ((with_reducible show wpList _ _ _ _ _ _); refine wpList_copy_splice (o := ⟨some 18, _, _, _, _, _⟩) rfl (.tmp 16) (.tmp 17) 23 23 rfl 22 Tryz.underlying23 hsz _ _ _ _ _ _ rfl rfl w.heap.size 0 cur 22 (heap_alloc_new w _) cs Hmin.out (fun h => ⟨rfl, by obtain ⟨ad, e, he⟩ := Hsrc.out (by omega); exact ⟨ad, e, fun j x hj => he j x hj _ ((Ext.refl w).alloc _)⟩⟩) (by omega) Hone.out w.heap.size w ((Ext.refl w).alloc _) (Nat.le_refl _) ?_; intro w2 HG2 hB2)
    have hrow : WRow w2 w.heap.size 0 (xs ++ List.replicate (n - xs.length) 0) := WRow.of_blk (t := 22) (rest := []) (by
      have := HG2.out
      rw [← Hcur.out, ← Hcs.out, splice_pad] at this
      rw [List.append_nil]
      exact this)
    have hx0 : Ext w w2 := hB2
    clear HG2
    obtain ⟨g, hg⟩ : ∃ g, w.heap.size = g := ⟨_, rfl⟩
    have hgw : w.heap.size ≤ g := by omega
    rw [hg] at hrow ⊢
    clear hg hB2
    have hpad : (xs ++ List.replicate (n - xs.length) (0 : Int)).length = n := by simp; have := Hxn.out; omega
    have Hrow := hid hrow
    have Hpad := hid hpad
    clear hrow hpad
    go_wp2_with fail
    go_loopw [21] (fun i wr => ∃ (k : Nat) (l : List Int), i = .int .i64 k ∧ k ≤ lb ∧ Hid (l.length = n) ∧ Hid (∀ j, l.getD j 0 = if j < k then (xs.getD j 0 - ys.getD j 0) % p else xs.getD j 0) ∧ WRow wr g 0 l ∧ Ext w wr) (fun i _ => lb - (intOf i).toNat)
    case atStart => exact ⟨0, _, rfl, Nat.zero_le _, Hpad, hid (fun j => by rw [pad_get]; simp), Hrow.out, hx0⟩
    case round =>
      obtain ⟨k, l, rfl, hk, hln, hl2, hrw, hxw⟩ := hrel
      clear hx0 Hrow
      have Hrw := hid hrw
      clear hrw
      by_cases hlt : k < lb
      · obtain ⟨b, off, rfl, hb, hcell⟩ := Hd.out (by omega)
        have g1 := (hxw.cells _ _ hb).trans (hcell k hlt)
        have r1 := Hy.out.get (k := k) (by rw [Hlb.out]; exact hlt)
        have r2 := Hx.out.getD hp2.1 k
        have g2 := (Hrw.out.2 k (by rw [hln.out]; omega)).1
        have f2 := (Hrw.out.2 k (by rw [hln.out]; omega)).2
        rw [Nat.zero_add, hl2.out, if_neg (Nat.lt_irrefl _)] at g2
        rw [Nat.zero_add] at f2
        obtain ⟨y, ey⟩ : ∃ y, ys.getD k 0 = y := ⟨_, rfl⟩
        obtain ⟨x, ex⟩ : ∃ x, xs.getD k 0 = x := ⟨_, rfl⟩
        rw [ey] at g1 r1; rw [ex] at g2 r2
        obtain ⟨r, er, r3, r4⟩ := name_mod (p := p) (x - y) hp2.1
        have Ey := hid ey; have Ex := hid ex; have Er := hid er
        clear hcell ey ex er
        go_wp2_with fail
        refine (minus_any p x y _ Hp.out r2.1 r2.2 r1.1 r1.2).mono ?_; rintro _ w3 ⟨rfl, h3⟩
        have g3 := (Hrw.out.ext h3).2 k (by rw [hln.out]; omega)
        rw [Nat.zero_add] at g3
        have g4 := g3.1
        have f4 := g3.2
        have hs := hid ((Hrw.out.ext h3).set_ (i := k) (by rw [hln.out]; omega) r)
        rw [Nat.zero_add] at hs
        rw [Er.out]
        clear g3
        go_wp2_with fail
        go_roundw
        case rel => exact ⟨k + 1, l.set k r, by go_num, by omega, hid (by rw [List.length_set]; exact hln.out), hid (fun j => by
          rw [set_get l k j r (by rw [hln.out]; omega), hl2.out]
          by_cases e : k = j
          · subst e
            rw [if_pos rfl, if_pos (by omega), Ex.out, Ey.out, Er.out]
          · rw [if_neg e]
            by_cases e2 : j < k
            · rw [if_pos e2, if_pos (by omega)]
            · rw [if_neg e2, if_neg (by omega)]), hs.out, (hxw.trans h3).setCell hgw _⟩
        case measure => simp [intOf]; omega
      · obtain rfl : lb = k := by omega
        have hi := Hrw.out.ints' hln.out (Nat.le_refl n) (by omega)
        have ht := trimmed_any (some ⟨g, 0, none⟩) n l _ (by rw [hln.out]; exact hi)
        rw [hln.out] at ht
        have Ht := hid ht
        have Hi := hid hi
        clear ht hi
        go_wp2_with (go_at_call 63; refine Ht.out.mono ?_; rintro _ _ ⟨rfl, rfl⟩)
        go_ret
        have hrng : Rng p l := Rng.of_get fun j hj => by
          rw [hl2.out]
          split
          · exact mod_range _ hp2.1
          · exact Hx.out.getD hp2.1 j
        have htl : trimN l n = trimN l l.length := by rw [hln.out]
        refine ⟨_, trimL l, rfl, ?_, (trimL_pol hrng).1, (trimL_pol hrng).2.trans (Ser.ext_ fun j => ?_), hxw⟩
        · rw [htl]
          exact (Hi.out.take' _ (by rw [← htl, hln.out]; exact trimN_le _ _))
        · rw [hrng.co, hl2.out, Ser.sub_co, Hx.out.co, Hy.out.co]
          split
          · rfl
          · rw [getD_over (xs := ys) (by rw [Hlb.out]; omega), Int.sub_zero, mod_small (Hx.out.getD hp2.1 j).1 (Hx.out.getD hp2.1 j).2]
end Go.Proofs.YtijpeepdedfhoaaGreat
/- What a call answers that makes a polynomial. -/
namespace Go.Proofs.YtijpeepdedfhoaaGreat
open Go.RowKit

/-- what a call answers: a polynomial, and OK -/
def RetT (p : Int) (f : Ser p) (w : World) (e : Ending) (w' : World) : Prop := ∃ v zs, e = .returned (.tuple #[v, .int .i64 0]) ∧ Ints .u64 w' v zs ∧ Pol p zs ∧ pol p zs = f ∧ Ext w w'
end Go.Proofs.YtijpeepdedfhoaaGreat
/- Rows of rows of numbers that a call made and may write. -/
namespace Go.Proofs.YtijpeepdedfhoaaGreat
open Go.RowKit

theorem WRow.grown {w w' : World} {g off : Nat} {xs : List Int} {row : Option Nat} (h : WRow w g off xs) (hg : w.grownBy w' row) (hr : row ≠ some g) : WRow w' g off xs := by
  have hb : w'.heap[g]? = w.heap[g]? := hg.block g h.1 (fun e => hr e.symm)
  refine ⟨Nat.lt_of_lt_of_le h.1 hg.size, fun j hj => ?_⟩
  obtain ⟨h1, h2⟩ := h.2 j hj
  constructor
  · rw [← h1]; simp only [World.cell?, hb]
  · rw [← h2]; simp only [World.frozen?, hb]
theorem WRow.set_other {w : World} {g off b o : Nat} {v : Value} {xs : List Int} (h : WRow w g off xs) (hne : g ≠ b) : WRow (w.setCell ⟨b, o, none⟩ v) g off xs :=
  ⟨by simpa [World.setCell] using h.1, fun j hj => ⟨(World.cell?_setCell_other _ _ _ _ (by intro e'; injection e' with e1 _; exact hne e1.symm)).trans (h.2 j hj).1, by rw [World.frozen?_setCell]; exact (h.2 j hj).2⟩⟩

/-- a row of m rows of n numbers each, in blocks of their own -/
structure Grid (w : World) (G m n : Nat) (gs cs : Nat → Nat) (R : Nat → List Int) : Prop where
  blk : G < w.heap.size
  hdr : ∀ i, i < m → w.cell? ⟨G, i, none⟩ = some (.slice (some ⟨gs i, 0, none⟩) n (cs i)) ∧ w.frozen? ⟨G, i, none⟩ = false
  row : ∀ i, i < m → WRow w (gs i) 0 (R i)
  len : ∀ i, i < m → (R i).length = n ∧ n ≤ cs i ∧ cs i ≤ 9223372036854775807
  off : ∀ i, i < m → gs i ≠ G
  two : ∀ i j, i < m → j < m → gs i = gs j → i = j
theorem Grid.ext {w w' : World} {G m n : Nat} {gs cs : Nat → Nat} {R : Nat → List Int} (h : Grid w G m n gs cs R) (he : Ext w w') : Grid w' G m n gs cs R :=
  ⟨Nat.lt_of_lt_of_le h.blk he.size, fun i hi => ⟨(he.cells _ _ h.blk).trans (h.hdr i hi).1, by rw [Below.frozen (p := ⟨G, i, none⟩) he h.blk]; exact (h.hdr i hi).2⟩, fun i hi => (h.row i hi).ext he, h.len, h.off, h.two⟩
/-- a number is written -/
theorem Grid.put {w : World} {G m n : Nat} {gs cs : Nat → Nat} {R : Nat → List Int} (h : Grid w G m n gs cs R) {i j : Nat} (hi : i < m) (hj : j < n) (x : Int) :
    Grid (w.setCell ⟨gs i, j, none⟩ (.int .u64 x)) G m n gs cs (fun o => if o = i then (R i).set j x else R o) := by
  refine ⟨by simpa [World.setCell] using h.blk, fun o ho => ⟨(World.cell?_setCell_other _ _ _ _ (by intro e'; injection e' with e1 _; exact h.off i hi e1)).trans (h.hdr o ho).1, by rw [World.frozen?_setCell]; exact (h.hdr o ho).2⟩, fun o ho => ?_, fun o ho => ?_, h.off, h.two⟩
  · by_cases e : o = i
    · subst e
      rw [if_pos rfl]
      have := (h.row o ho).set_ (i := j) (by rw [(h.len o ho).1]; exact hj) x
      rwa [Nat.zero_add] at this
    · rw [if_neg e]
      exact (h.row o ho).set_other fun e2 => e (h.two o i ho hi e2)
  · by_cases e : o = i
    · subst e
      rw [if_pos rfl, List.length_set]; exact h.len o ho
    · rw [if_neg e]; exact h.len o ho
/-- two change places -/
def swapN {α : Type} (f : Nat → α) (a b : Nat) : Nat → α := fun i => if i = a then f b else if i = b then f a else f i
theorem swapN_map {α β : Type} (P : α → β) (f : Nat → α) (a b i : Nat) : P (swapN f a b i) = swapN (fun i => P (f i)) a b i := by
  unfold swapN; split
  · rfl
  · split <;> rfl
/-- two rows change places -/
theorem Grid.swap {w : World} {G m n : Nat} {gs cs : Nat → Nat} {R : Nat → List Int} (h : Grid w G m n gs cs R) {a b : Nat} (ha : a < m) (hb : b < m) :
    Grid ((w.setCell ⟨G, a, none⟩ (.slice (some ⟨gs b, 0, none⟩) n (cs b))).setCell ⟨G, b, none⟩ (.slice (some ⟨gs a, 0, none⟩) n (cs a))) G m n (swapN gs a b) (swapN cs a b) (swapN R a b) := by
  have key : ∀ i, i < m → ∃ k, k < m ∧ (i = a ∧ k = b ∨ i ≠ a ∧ i = b ∧ k = a ∨ i ≠ a ∧ i ≠ b ∧ k = i) ∧ swapN gs a b i = gs k ∧ swapN cs a b i = cs k ∧ swapN R a b i = R k := fun i hi => by
    unfold swapN
    by_cases e1 : i = a
    · exact ⟨b, hb, .inl ⟨e1, rfl⟩, by rw [if_pos e1], by rw [if_pos e1], by rw [if_pos e1]⟩
    · by_cases e2 : i = b
      · exact ⟨a, ha, .inr (.inl ⟨e1, e2, rfl⟩), by rw [if_neg e1, if_pos e2], by rw [if_neg e1, if_pos e2], by rw [if_neg e1, if_pos e2]⟩
      · exact ⟨i, hi, .inr (.inr ⟨e1, e2, rfl⟩), by rw [if_neg e1, if_neg e2], by rw [if_neg e1, if_neg e2], by rw [if_neg e1, if_neg e2]⟩
  refine ⟨by simpa [World.setCell] using h.blk, fun i hi => ?_, fun i hi => ?_, fun i hi => ?_, fun i hi => ?_, fun i j hi hj e => ?_⟩
  · obtain ⟨k, hk, hc, e1, e2, e3⟩ := key i hi
    rw [e1, e2]
    refine ⟨?_, by rw [World.frozen?_setCell, World.frozen?_setCell]; exact (h.hdr i hi).2⟩
    have hs : ∀ v, (w.setCell ⟨G, a, none⟩ v).cell? ⟨G, b, none⟩ ≠ none := fun v => by
      by_cases e : a = b
      · subst e; rw [World.cell?_setCell_same _ _ _ (h.hdr a ha).1]; simp
      · rw [World.cell?_setCell_other _ _ _ _ (by intro e'; injection e' with _ e2; exact e e2), (h.hdr b hb).1]; simp
    by_cases eb : i = b
    · subst eb
      obtain ⟨u, hu⟩ := Option.ne_none_iff_exists'.1 (hs (.slice (some ⟨gs i, 0, none⟩) n (cs i)))
      rw [World.cell?_setCell_same _ _ _ hu]
      rcases hc with ⟨r1, r2⟩ | ⟨_, _, r2⟩ | ⟨_, r1, _⟩
      · rw [r2, r1]
      · rw [r2]
      · exact absurd rfl r1
    · rw [World.cell?_setCell_other _ _ _ _ (by intro e'; injection e' with _ e2; exact eb e2.symm)]
      by_cases ea : i = a
      · subst ea
        rw [World.cell?_setCell_same _ _ _ (h.hdr i hi).1]
        rcases hc with ⟨_, r2⟩ | ⟨r1, _⟩ | ⟨r1, _⟩
        · rw [r2]
        · exact absurd rfl r1
        · exact absurd rfl r1
      · rw [World.cell?_setCell_other _ _ _ _ (by intro e'; injection e' with _ e2; exact ea e2.symm), (h.hdr i hi).1]
        rcases hc with ⟨r1, _⟩ | ⟨_, r1, _⟩ | ⟨_, _, r2⟩
        · exact absurd r1 ea
        · exact absurd r1 eb
        · rw [r2]
  · obtain ⟨k, hk, hc, e1, e2, e3⟩ := key i hi
    rw [e1, e3]
    exact ((h.row k hk).set_other (h.off k hk)).set_other (h.off k hk)
  · obtain ⟨k, hk, hc, e1, e2, e3⟩ := key i hi
    rw [e2, e3]; exact h.len k hk
  · obtain ⟨k, hk, hc, e1, e2, e3⟩ := key i hi
    rw [e1]; exact h.off k hk
  · obtain ⟨k, hk, hc, e1, e2, e3⟩ := key i hi
    obtain ⟨k', hk', hc', e1', e2', e3'⟩ := key j hj
    rw [e1, e1'] at e
    have := h.two k k' hk hk' e
    omega
end Go.Proofs.YtijpeepdedfhoaaGreat
