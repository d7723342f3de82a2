/- What the texts RetT, Join show, in one text. -/
import Derived.Test.YtfpmcajndgkgeaaBun07
import Derived.Test.YtfpmcajndgkgeaaBun27
/- What a call answers that makes a polynomial. -/
namespace Go.Proofs.Ytfpmcajndgkgeaa
open Go.RowKit

/-- what a call answers: a polynomial, and OK -/
def RetT (p : Int) (f : Ser p) (w : World) (e : Ending) (w' : World) : Prop := ∃ v zs, e = .returned (.tuple #[v, .int .i64 0]) ∧ Ints .u64 w' v zs ∧ Pol p zs ∧ pol p zs = f ∧ Ext w w'
end Go.Proofs.Ytfpmcajndgkgeaa
/- Sums and differences of polynomials, place by place. -/
namespace Go.Proofs.Ytfpmcajndgkgeaa
open Go.RowKit

set_option maxRecDepth 100000 in
set_option maxHeartbeats 1000000 in
theorem joined_plus (p : Int) (v u : Value) (xs ys : List Int) (w : World) (hp : rightB p = true) (hv : Ints .u64 w v xs) (hu : Ints .u64 w u ys) (hx : Rng p xs) (hy : Rng p ys) (hl : xs.length ≤ 1000000 ∧ ys.length ≤ 1000000) :
    Calls Try.prog 107 #[.func (.func 108) #[.int .u64 p] #[], v, u] w (RetP p (pol p xs + pol p ys) w) := by
  have hp2 := rightB_true hp
  obtain ⟨a, cap, rfl, hc1, hc2, hc⟩ := hv
  obtain ⟨a', cap', rfl, hd1, hd2, hd⟩ := hu
  have Hc := hid hc; have Hd := hid hd; have Hx := hid hx; have Hy := hid hy; have Hp := hid hp
  clear hc hd hp
  obtain ⟨la, hla⟩ : ∃ la, xs.length = la := ⟨_, rfl⟩
  obtain ⟨lb, hlb⟩ : ∃ lb, ys.length = lb := ⟨_, rfl⟩
  obtain ⟨n, hn⟩ : ∃ n, max la lb = n := ⟨_, rfl⟩
  have hxn : xs.length ≤ n := by omega
  have hyn : ys.length ≤ n := by omega
  have Hxn := hid hxn; have Hyn := hid hyn
  have hsrc : 0 < la → ∃ ad, a = some ad ∧ ∀ j x, (xs.map (Value.int .u64))[j]? = some x → ∀ w', Ext w w' → w'.cell? (ad.add j) = some x := fun h0 => by
    obtain ⟨b, off, rfl, hb, hcell⟩ := Hc.out (by omega)
    refine ⟨_, rfl, fun j x hj w' he => ?_⟩
    have hjl : j < xs.length := by
      rcases Nat.lt_or_ge j xs.length with h | h
      · exact h
      · rw [List.getElem?_eq_none (by simpa using h)] at hj; cases hj
    rw [show ((⟨b, off, none⟩ : Addr).add j) = ⟨b, off + j, none⟩ from Go.WideShapes.add_plain _ _ _, he.cells _ _ hb, hcell j hjl]
    rw [List.getElem?_map, List.getElem?_eq_getElem hjl] at hj
    simp only [Option.map_some, Option.some.injEq] at hj
    rw [← hj]
    simp [List.getD, List.getElem?_eq_getElem hjl]
  have Hsrc := hid hsrc
  clear hsrc
  obtain ⟨cs, hcs⟩ : ∃ cs, xs.map (Value.int .u64) = cs := ⟨_, rfl⟩
  have hcl : cs.length = la := by rw [← hcs, List.length_map, hla]
  have Hone : Hid (∀ x ∈ cs, x.oneCell' = true) := hid (by
    rw [← hcs]
    intro x hx
    obtain ⟨y, _, rfl⟩ := List.mem_map.1 hx
    rfl)
  obtain ⟨cur, hcur⟩ : ∃ cur, (List.replicate n (0 : Int)).map (Value.int .u64) = cur := ⟨_, rfl⟩
  have hcurl : cur.length = n := by rw [← hcur]; simp
  have Hmade : Hid ((madeCells #[Value.int .u64 0] n) = cur.toArray) := hid (by
    rw [← hcur]
    simp [madeCells]
    apply Array.ext
    · simp
    · intro i h1 h2
      simp [Nat.mod_one])
  have Hcs := hid hcs; have Hcur := hid hcur
  rw [hcs] at Hsrc
  have hmk := make_ints (P := Try.prog) 23 22 .u64 8 (by omega) (by kernel_rfl) (by kernel_rfl) n n (Nat.le_refl _) (by omega)
  rw [hla] at hc1 ⊢
  rw [hlb] at hd1 ⊢
  rw [hla] at hxn
  rw [hlb] at hyn
  have Hla := hid hla; have Hlb := hid hlb
  rw [hla, hlb] at hl
  rw [hlb] at Hd
  have hnm : n ≤ 1000000 := by omega
  clear hx hy hcs hcur hla hlb
  have hmin : cs.length = Nat.min la n := by rw [hcl]; exact (Nat.min_eq_left hxn).symm
  have Hmin := hid hmin
  clear hmin
  have hcase : (la < n ∧ n = lb) ∨ (lb ≤ n ∧ n = la) := by omega
  have hsz : (Try.prog.info? 22).map (·.size) = some 1 := by kernel_rfl
  have Hn := hid hn
  clear hn
  rw [Hmade.out] at hmk
  rcases hcase with ⟨h1, rfl⟩ | ⟨h1, rfl⟩
  · go_enter Try.func107, Try.ntmps107
    go_wp2_with ((with_reducible show wpList _ _ _ _ _ _); refine wpList_copy_splice (o := ⟨some 18, _, _, _, _, _⟩) rfl (.tmp 16) (.tmp 17) 23 23 rfl 22 Try.underlying23 hsz _ _ _ _ _ _ rfl rfl w.heap.size 0 cur 22 (heap_alloc_new w _) cs Hmin.out (fun h => ⟨rfl, by obtain ⟨ad, e, he⟩ := Hsrc.out (by omega); exact ⟨ad, e, fun j x hj => he j x hj _ ((Ext.refl w).alloc _)⟩⟩) (by omega) Hone.out w.heap.size w ((Ext.refl w).alloc _) (Nat.le_refl _) ?_; intro w2 HG2 hB2)
    have hrow : WRow w2 w.heap.size 0 (xs ++ List.replicate (n - xs.length) 0) := WRow.of_blk (t := 22) (rest := []) (by
      have := HG2.out
      rw [← Hcur.out, ← Hcs.out, splice_pad] at this
      rw [List.append_nil]
      exact this)
    have hx0 : Ext w w2 := hB2
    clear HG2
    obtain ⟨g, hg⟩ : ∃ g, w.heap.size = g := ⟨_, rfl⟩
    have hgw : w.heap.size ≤ g := by omega
    rw [hg] at hrow ⊢
    clear hg hB2
    have hpad : (xs ++ List.replicate (n - xs.length) (0 : Int)).length = n := by simp; have := Hxn.out; omega
    have Hrow := hid hrow
    have Hpad := hid hpad
    clear hrow hpad
    go_wp2_with fail
    go_loopw [21] (fun i wr => ∃ (k : Nat) (l : List Int), i = .int .i64 k ∧ k ≤ n ∧ Hid (l.length = n) ∧ Hid (∀ j, l.getD j 0 = if j < k then (xs.getD j 0 + ys.getD j 0) % p else xs.getD j 0) ∧ WRow wr g 0 l ∧ Ext w wr) (fun i _ => n - (intOf i).toNat)
    case atStart => exact ⟨0, _, rfl, Nat.zero_le _, Hpad, hid (fun j => by rw [pad_get]; simp), Hrow.out, hx0⟩
    case round =>
      obtain ⟨k, l, rfl, hk, hln, hl2, hrw, hxw⟩ := hrel
      clear hx0 Hrow
      have Hrw := hid hrw
      clear hrw
      by_cases hlt : k < n
      · obtain ⟨b, off, rfl, hb, hcell⟩ := Hd.out (by omega)
        have g1 := (hxw.cells _ _ hb).trans (hcell k hlt)
        have r1 := Hy.out.get (k := k) (by rw [Hlb.out]; exact hlt)
        have r2 := Hx.out.getD hp2.1 k
        have g2 := (Hrw.out.2 k (by rw [hln.out]; omega)).1
        have f2 := (Hrw.out.2 k (by rw [hln.out]; omega)).2
        rw [Nat.zero_add, hl2.out, if_neg (Nat.lt_irrefl _)] at g2
        rw [Nat.zero_add] at f2
        obtain ⟨y, ey⟩ : ∃ y, ys.getD k 0 = y := ⟨_, rfl⟩
        obtain ⟨x, ex⟩ : ∃ x, xs.getD k 0 = x := ⟨_, rfl⟩
        rw [ey] at g1 r1; rw [ex] at g2 r2
        obtain ⟨r, er, r3, r4⟩ := name_mod (p := p) (x + y) hp2.1
        have Ey := hid ey; have Ex := hid ex; have Er := hid er
        clear hcell ey ex er
        go_wp2_with fail
        refine (plus_any p x y _ Hp.out r2.1 r2.2 r1.1 r1.2).mono ?_; rintro _ w3 ⟨rfl, h3⟩
        have g3 := (Hrw.out.ext h3).2 k (by rw [hln.out]; omega)
        rw [Nat.zero_add] at g3
        have g4 := g3.1
        have f4 := g3.2
        have hs := hid ((Hrw.out.ext h3).set_ (i := k) (by rw [hln.out]; omega) r)
        rw [Nat.zero_add] at hs
        rw [Er.out]
        clear g3
        go_wp2_with fail
        go_roundw
        case rel => exact ⟨k + 1, l.set k r, by go_num, by omega, hid (by rw [List.length_set]; exact hln.out), hid (fun j => by
          rw [set_get l k j r (by rw [hln.out]; omega), hl2.out]
          by_cases e : k = j
          · subst e
            rw [if_pos rfl, if_pos (by omega), Ex.out, Ey.out, Er.out]
          · rw [if_neg e]
            by_cases e2 : j < k
            · rw [if_pos e2, if_pos (by omega)]
            · rw [if_neg e2, if_neg (by omega)]), hs.out, (hxw.trans h3).setCell hgw _⟩
        case measure => simp [intOf]; omega
      · obtain rfl : n = k := by omega
        have hi := Hrw.out.ints' hln.out (Nat.le_refl n) (by omega)
        have ht := trimmed_any (some ⟨g, 0, none⟩) n l _ (by rw [hln.out]; exact hi)
        rw [hln.out] at ht
        have Ht := hid ht
        have Hi := hid hi
        clear ht hi
        go_wp2_with (go_at_call 93; refine Ht.out.mono ?_; rintro _ _ ⟨rfl, rfl⟩)
        go_ret
        have hrng : Rng p l := Rng.of_get fun j hj => by
          rw [hl2.out]
          split
          · exact mod_range _ hp2.1
          · exact Hx.out.getD hp2.1 j
        have htl : trimN l n = trimN l l.length := by rw [hln.out]
        refine ⟨_, trimL l, rfl, ?_, (trimL_pol hrng).1, (trimL_pol hrng).2.trans (Ser.ext_ fun j => ?_), hxw⟩
        · rw [htl]
          exact (Hi.out.take' _ (by rw [← htl, hln.out]; exact trimN_le _ _))
        · rw [hrng.co, hl2.out, Ser.add_co, Hx.out.co, Hy.out.co]
          split
          · rfl
          · rw [getD_over (xs := ys) (by rw [Hlb.out]; omega), Int.add_zero, mod_small (Hx.out.getD hp2.1 j).1 (Hx.out.getD hp2.1 j).2]
  · go_enter Try.func107, Try.ntmps107
    go_wp2_with ((with_reducible show wpList _ _ _ _ _ _); refine wpList_copy_splice (o := ⟨some 18, _, _, _, _, _⟩) rfl (.tmp 16) (.tmp 17) 23 23 rfl 22 Try.underlying23 hsz _ _ _ _ _ _ rfl rfl w.heap.size 0 cur 22 (heap_alloc_new w _) cs Hmin.out (fun h => ⟨rfl, by obtain ⟨ad, e, he⟩ := Hsrc.out (by omega); exact ⟨ad, e, fun j x hj => he j x hj _ ((Ext.refl w).alloc _)⟩⟩) (by omega) Hone.out w.heap.size w ((Ext.refl w).alloc _) (Nat.le_refl _) ?_; intro w2 HG2 hB2)
    have hrow : WRow w2 w.heap.size 0 (xs ++ List.replicate (n - xs.length) 0) := WRow.of_blk (t := 22) (rest := []) (by
      have := HG2.out
      rw [← Hcur.out, ← Hcs.out, splice_pad] at this
      rw [List.append_nil]
      exact this)
    have hx0 : Ext w w2 := hB2
    clear HG2
    obtain ⟨g, hg⟩ : ∃ g, w.heap.size = g := ⟨_, rfl⟩
    have hgw : w.heap.size ≤ g := by omega
    rw [hg] at hrow ⊢
    clear hg hB2
    have hpad : (xs ++ List.replicate (n - xs.length) (0 : Int)).length = n := by simp; have := Hxn.out; omega
    have Hrow := hid hrow
    have Hpad := hid hpad
    clear hrow hpad
    go_wp2_with fail
    go_loopw [21] (fun i wr => ∃ (k : Nat) (l : List Int), i = .int .i64 k ∧ k ≤ lb ∧ Hid (l.length = n) ∧ Hid (∀ j, l.getD j 0 = if j < k then (xs.getD j 0 + ys.getD j 0) % p else xs.getD j 0) ∧ WRow wr g 0 l ∧ Ext w wr) (fun i _ => lb - (intOf i).toNat)
    case atStart => exact ⟨0, _, rfl, Nat.zero_le _, Hpad, hid (fun j => by rw [pad_get]; simp), Hrow.out, hx0⟩
    case round =>
      obtain ⟨k, l, rfl, hk, hln, hl2, hrw, hxw⟩ := hrel
      clear hx0 Hrow
      have Hrw := hid hrw
      clear hrw
      by_cases hlt : k < lb
      · obtain ⟨b, off, rfl, hb, hcell⟩ := Hd.out (by omega)
        have g1 := (hxw.cells _ _ hb).trans (hcell k hlt)
        have r1 := Hy.out.get (k := k) (by rw [Hlb.out]; exact hlt)
        have r2 := Hx.out.getD hp2.1 k
        have g2 := (Hrw.out.2 k (by rw [hln.out]; omega)).1
        have f2 := (Hrw.out.2 k (by rw [hln.out]; omega)).2
        rw [Nat.zero_add, hl2.out, if_neg (Nat.lt_irrefl _)] at g2
        rw [Nat.zero_add] at f2
        obtain ⟨y, ey⟩ : ∃ y, ys.getD k 0 = y := ⟨_, rfl⟩
        obtain ⟨x, ex⟩ : ∃ x, xs.getD k 0 = x := ⟨_, rfl⟩
        rw [ey] at g1 r1; rw [ex] at g2 r2
        obtain ⟨r, er, r3, r4⟩ := name_mod (p := p) (x + y) hp2.1
        have Ey := hid ey; have Ex := hid ex; have Er := hid er
        clear hcell ey ex er
        go_wp2_with fail
        refine (plus_any p x y _ Hp.out r2.1 r2.2 r1.1 r1.2).mono ?_; rintro _ w3 ⟨rfl, h3⟩
        have g3 := (Hrw.out.ext h3).2 k (by rw [hln.out]; omega)
        rw [Nat.zero_add] at g3
        have g4 := g3.1
        have f4 := g3.2
        have hs := hid ((Hrw.out.ext h3).set_ (i := k) (by rw [hln.out]; omega) r)
        rw [Nat.zero_add] at hs
        rw [Er.out]
        clear g3
        go_wp2_with fail
        go_roundw
        case rel => exact ⟨k + 1, l.set k r, by go_num, by omega, hid (by rw [List.length_set]; exact hln.out), hid (fun j => by
          rw [set_get l k j r (by rw [hln.out]; omega), hl2.out]
          by_cases e : k = j
          · subst e
            rw [if_pos rfl, if_pos (by omega), Ex.out, Ey.out, Er.out]
          · rw [if_neg e]
            by_cases e2 : j < k
            · rw [if_pos e2, if_pos (by omega)]
            · rw [if_neg e2, if_neg (by omega)]), hs.out, (hxw.trans h3).setCell hgw _⟩
        case measure => simp [intOf]; omega
      · obtain rfl : lb = k := by omega
        have hi := Hrw.out.ints' hln.out (Nat.le_refl n) (by omega)
        have ht := trimmed_any (some ⟨g, 0, none⟩) n l _ (by rw [hln.out]; exact hi)
        rw [hln.out] at ht
        have Ht := hid ht
        have Hi := hid hi
        clear ht hi
        go_wp2_with (go_at_call 93; refine Ht.out.mono ?_; rintro _ _ ⟨rfl, rfl⟩)
        go_ret
        have hrng : Rng p l := Rng.of_get fun j hj => by
          rw [hl2.out]
          split
          · exact mod_range _ hp2.1
          · exact Hx.out.getD hp2.1 j
        have htl : trimN l n = trimN l l.length := by rw [hln.out]
        refine ⟨_, trimL l, rfl, ?_, (trimL_pol hrng).1, (trimL_pol hrng).2.trans (Ser.ext_ fun j => ?_), hxw⟩
        · rw [htl]
          exact (Hi.out.take' _ (by rw [← htl, hln.out]; exact trimN_le _ _))
        · rw [hrng.co, hl2.out, Ser.add_co, Hx.out.co, Hy.out.co]
          split
          · rfl
          · rw [getD_over (xs := ys) (by rw [Hlb.out]; omega), Int.add_zero, mod_small (Hx.out.getD hp2.1 j).1 (Hx.out.getD hp2.1 j).2]

set_option maxRecDepth 100000 in
set_option maxHeartbeats 1000000 in
theorem joined_minus (p : Int) (v u : Value) (xs ys : List Int) (w : World) (hp : rightB p = true) (hv : Ints .u64 w v xs) (hu : Ints .u64 w u ys) (hx : Rng p xs) (hy : Rng p ys) (hl : xs.length ≤ 1000000 ∧ ys.length ≤ 1000000) :
    Calls Try.prog 107 #[.func (.func 92) #[.int .u64 p] #[], v, u] w (RetP p (pol p xs - pol p ys) w) := by
  have hp2 := rightB_true hp
  obtain ⟨a, cap, rfl, hc1, hc2, hc⟩ := hv
  obtain ⟨a', cap', rfl, hd1, hd2, hd⟩ := hu
  have Hc := hid hc; have Hd := hid hd; have Hx := hid hx; have Hy := hid hy; have Hp := hid hp
  clear hc hd hp
  obtain ⟨la, hla⟩ : ∃ la, xs.length = la := ⟨_, rfl⟩
  obtain ⟨lb, hlb⟩ : ∃ lb, ys.length = lb := ⟨_, rfl⟩
  obtain ⟨n, hn⟩ : ∃ n, max la lb = n := ⟨_, rfl⟩
  have hxn : xs.length ≤ n := by omega
  have hyn : ys.length ≤ n := by omega
  have Hxn := hid hxn; have Hyn := hid hyn
  have hsrc : 0 < la → ∃ ad, a = some ad ∧ ∀ j x, (xs.map (Value.int .u64))[j]? = some x → ∀ w', Ext w w' → w'.cell? (ad.add j) = some x := fun h0 => by
    obtain ⟨b, off, rfl, hb, hcell⟩ := Hc.out (by omega)
    refine ⟨_, rfl, fun j x hj w' he => ?_⟩
    have hjl : j < xs.length := by
      rcases Nat.lt_or_ge j xs.length with h | h
      · exact h
      · rw [List.getElem?_eq_none (by simpa using h)] at hj; cases hj
    rw [show ((⟨b, off, none⟩ : Addr).add j) = ⟨b, off + j, none⟩ from Go.WideShapes.add_plain _ _ _, he.cells _ _ hb, hcell j hjl]
    rw [List.getElem?_map, List.getElem?_eq_getElem hjl] at hj
    simp only [Option.map_some, Option.some.injEq] at hj
    rw [← hj]
    simp [List.getD, List.getElem?_eq_getElem hjl]
  have Hsrc := hid hsrc
  clear hsrc
  obtain ⟨cs, hcs⟩ : ∃ cs, xs.map (Value.int .u64) = cs := ⟨_, rfl⟩
  have hcl : cs.length = la := by rw [← hcs, List.length_map, hla]
  have Hone : Hid (∀ x ∈ cs, x.oneCell' = true) := hid (by
    rw [← hcs]
    intro x hx
    obtain ⟨y, _, rfl⟩ := List.mem_map.1 hx
    rfl)
  obtain ⟨cur, hcur⟩ : ∃ cur, (List.replicate n (0 : Int)).map (Value.int .u64) = cur := ⟨_, rfl⟩
  have hcurl : cur.length = n := by rw [← hcur]; simp
  have Hmade : Hid ((madeCells #[Value.int .u64 0] n) = cur.toArray) := hid (by
    rw [← hcur]
    simp [madeCells]
    apply Array.ext
    · simp
    · intro i h1 h2
      simp [Nat.mod_one])
  have Hcs := hid hcs; have Hcur := hid hcur
  rw [hcs] at Hsrc
  have hmk := make_ints (P := Try.prog) 23 22 .u64 8 (by omega) (by kernel_rfl) (by kernel_rfl) n n (Nat.le_refl _) (by omega)
  rw [hla] at hc1 ⊢
  rw [hlb] at hd1 ⊢
  rw [hla] at hxn
  rw [hlb] at hyn
  have Hla := hid hla; have Hlb := hid hlb
  rw [hla, hlb] at hl
  rw [hlb] at Hd
  have hnm : n ≤ 1000000 := by omega
  clear hx hy hcs hcur hla hlb
  have hmin : cs.length = Nat.min la n := by rw [hcl]; exact (Nat.min_eq_left hxn).symm
  have Hmin := hid hmin
  clear hmin
  have hcase : (la < n ∧ n = lb) ∨ (lb ≤ n ∧ n = la) := by omega
  have hsz : (Try.prog.info? 22).map (·.size) = some 1 := by kernel_rfl
  have Hn := hid hn
  clear hn
  rw [Hmade.out] at hmk
  rcases hcase with ⟨h1, rfl⟩ | ⟨h1, rfl⟩
  · go_enter Try.func107, Try.ntmps107
    go_wp2_with ((with_reducible show wpList _ _ _ _ _ _); refine wpList_copy_splice (o := ⟨some 18, _, _, _, _, _⟩) rfl (.tmp 16) (.tmp 17) 23 23 rfl 22 Try.underlying23 hsz _ _ _ _ _ _ rfl rfl w.heap.size 0 cur 22 (heap_alloc_new w _) cs Hmin.out (fun h => ⟨rfl, by obtain ⟨ad, e, he⟩ := Hsrc.out (by omega); exact ⟨ad, e, fun j x hj => he j x hj _ ((Ext.refl w).alloc _)⟩⟩) (by omega) Hone.out w.heap.size w ((Ext.refl w).alloc _) (Nat.le_refl _) ?_; intro w2 HG2 hB2)
    have hrow : WRow w2 w.heap.size 0 (xs ++ List.replicate (n - xs.length) 0) := WRow.of_blk (t := 22) (rest := []) (by
      have := HG2.out
      rw [← Hcur.out, ← Hcs.out, splice_pad] at this
      rw [List.append_nil]
      exact this)
    have hx0 : Ext w w2 := hB2
    clear HG2
    obtain ⟨g, hg⟩ : ∃ g, w.heap.size = g := ⟨_, rfl⟩
    have hgw : w.heap.size ≤ g := by omega
    rw [hg] at hrow ⊢
    clear hg hB2
    have hpad : (xs ++ List.replicate (n - xs.length) (0 : Int)).length = n := by simp; have := Hxn.out; omega
    have Hrow := hid hrow
    have Hpad := hid hpad
    clear hrow hpad
    go_wp2_with fail
    go_loopw [21] (fun i wr => ∃ (k : Nat) (l : List Int), i = .int .i64 k ∧ k ≤ n ∧ Hid (l.length = n) ∧ Hid (∀ j, l.getD j 0 = if j < k then (xs.getD j 0 - ys.getD j 0) % p else xs.getD j 0) ∧ WRow wr g 0 l ∧ Ext w wr) (fun i _ => n - (intOf i).toNat)
    case atStart => exact ⟨0, _, rfl, Nat.zero_le _, Hpad, hid (fun j => by rw [pad_get]; simp), Hrow.out, hx0⟩
    case round =>
      obtain ⟨k, l, rfl, hk, hln, hl2, hrw, hxw⟩ := hrel
      clear hx0 Hrow
      have Hrw := hid hrw
      clear hrw
      by_cases hlt : k < n
      · obtain ⟨b, off, rfl, hb, hcell⟩ := Hd.out (by omega)
        have g1 := (hxw.cells _ _ hb).trans (hcell k hlt)
        have r1 := Hy.out.get (k := k) (by rw [Hlb.out]; exact hlt)
        have r2 := Hx.out.getD hp2.1 k
        have g2 := (Hrw.out.2 k (by rw [hln.out]; omega)).1
        have f2 := (Hrw.out.2 k (by rw [hln.out]; omega)).2
        rw [Nat.zero_add, hl2.out, if_neg (Nat.lt_irrefl _)] at g2
        rw [Nat.zero_add] at f2
        obtain ⟨y, ey⟩ : ∃ y, ys.getD k 0 = y := ⟨_, rfl⟩
        obtain ⟨x, ex⟩ : ∃ x, xs.getD k 0 = x := ⟨_, rfl⟩
        rw [ey] at g1 r1; rw [ex] at g2 r2
        obtain ⟨r, er, r3, r4⟩ := name_mod (p := p) (x - y) hp2.1
        have Ey := hid ey; have Ex := hid ex; have Er := hid er
        clear hcell ey ex er
        go_wp2_with fail
        refine (minus_any p x y _ Hp.out r2.1 r2.2 r1.1 r1.2).mono ?_; rintro _ w3 ⟨rfl, h3⟩
        have g3 := (Hrw.out.ext h3).2 k (by rw [hln.out]; omega)
        rw [Nat.zero_add] at g3
        have g4 := g3.1
        have f4 := g3.2
        have hs := hid ((Hrw.out.ext h3).set_ (i := k) (by rw [hln.out]; omega) r)
        rw [Nat.zero_add] at hs
        rw [Er.out]
        clear g3
        go_wp2_with fail
        go_roundw
        case rel => exact ⟨k + 1, l.set k r, by go_num, by omega, hid (by rw [List.length_set]; exact hln.out), hid (fun j => by
          rw [set_get l k j r (by rw [hln.out]; omega), hl2.out]
          by_cases e : k = j
          · subst e
            rw [if_pos rfl, if_pos (by omega), Ex.out, Ey.out, Er.out]
          · rw [if_neg e]
            by_cases e2 : j < k
            · rw [if_pos e2, if_pos (by omega)]
            · rw [if_neg e2, if_neg (by omega)]), hs.out, (hxw.trans h3).setCell hgw _⟩
        case measure => simp [intOf]; omega
      · obtain rfl : n = k := by omega
        have hi := Hrw.out.ints' hln.out (Nat.le_refl n) (by omega)
        have ht := trimmed_any (some ⟨g, 0, none⟩) n l _ (by rw [hln.out]; exact hi)
        rw [hln.out] at ht
        have Ht := hid ht
        have Hi := hid hi
        clear ht hi
        go_wp2_with (go_at_call 93; refine Ht.out.mono ?_; rintro _ _ ⟨rfl, rfl⟩)
        go_ret
        have hrng : Rng p l := Rng.of_get fun j hj => by
          rw [hl2.out]
          split
          · exact mod_range _ hp2.1
          · exact Hx.out.getD hp2.1 j
        have htl : trimN l n = trimN l l.length := by rw [hln.out]
        refine ⟨_, trimL l, rfl, ?_, (trimL_pol hrng).1, (trimL_pol hrng).2.trans (Ser.ext_ fun j => ?_), hxw⟩
        · rw [htl]
          exact (Hi.out.take' _ (by rw [← htl, hln.out]; exact trimN_le _ _))
        · rw [hrng.co, hl2.out, Ser.sub_co, Hx.out.co, Hy.out.co]
          split
          · rfl
          · rw [getD_over (xs := ys) (by rw [Hlb.out]; omega), Int.sub_zero, mod_small (Hx.out.getD hp2.1 j).1 (Hx.out.getD hp2.1 j).2]
  · go_enter Try.func107, Try.ntmps107
    go_wp2_with ((with_reducible show wpList _ _ _ _ _ _); refine wpList_copy_splice (o := ⟨some 18, _, _, _, _, _⟩) rfl (.tmp 16) (.tmp 17) 23 23 rfl 22 Try.underlying23 hsz _ _ _ _ _ _ rfl rfl w.heap.size 0 cur 22 (heap_alloc_new w _) cs Hmin.out (fun h => ⟨rfl, by obtain ⟨ad, e, he⟩ := Hsrc.out (by omega); exact ⟨ad, e, fun j x hj => he j x hj _ ((Ext.refl w).alloc _)⟩⟩) (by omega) Hone.out w.heap.size w ((Ext.refl w).alloc _) (Nat.le_refl _) ?_; intro w2 HG2 hB2)
    have hrow : WRow w2 w.heap.size 0 (xs ++ List.replicate (n - xs.length) 0) := WRow.of_blk (t := 22) (rest := []) (by
      have := HG2.out
      rw [← Hcur.out, ← Hcs.out, splice_pad] at this
      rw [List.append_nil]
      exact this)
    have hx0 : Ext w w2 := hB2
    clear HG2
    obtain ⟨g, hg⟩ : ∃ g, w.heap.size = g := ⟨_, rfl⟩
    have hgw : w.heap.size ≤ g := by omega
    rw [hg] at hrow ⊢
    clear hg hB2
    have hpad : (xs ++ List.replicate (n - xs.length) (0 : Int)).length = n := by simp; have := Hxn.out; omega
    have Hrow := hid hrow
    have Hpad := hid hpad
    clear hrow hpad
    go_wp2_with fail
    go_loopw [21] (fun i wr => ∃ (k : Nat) (l : List Int), i = .int .i64 k ∧ k ≤ lb ∧ Hid (l.length = n) ∧ Hid (∀ j, l.getD j 0 = if j < k then (xs.getD j 0 - ys.getD j 0) % p else xs.getD j 0) ∧ WRow wr g 0 l ∧ Ext w wr) (fun i _ => lb - (intOf i).toNat)
    case atStart => exact ⟨0, _, rfl, Nat.zero_le _, Hpad, hid (fun j => by rw [pad_get]; simp), Hrow.out, hx0⟩
    case round =>
      obtain ⟨k, l, rfl, hk, hln, hl2, hrw, hxw⟩ := hrel
      clear hx0 Hrow
      have Hrw := hid hrw
      clear hrw
      by_cases hlt : k < lb
      · obtain ⟨b, off, rfl, hb, hcell⟩ := Hd.out (by omega)
        have g1 := (hxw.cells _ _ hb).trans (hcell k hlt)
        have r1 := Hy.out.get (k := k) (by rw [Hlb.out]; exact hlt)
        have r2 := Hx.out.getD hp2.1 k
        have g2 := (Hrw.out.2 k (by rw [hln.out]; omega)).1
        have f2 := (Hrw.out.2 k (by rw [hln.out]; omega)).2
        rw [Nat.zero_add, hl2.out, if_neg (Nat.lt_irrefl _)] at g2
        rw [Nat.zero_add] at f2
        obtain ⟨y, ey⟩ : ∃ y, ys.getD k 0 = y := ⟨_, rfl⟩
        obtain ⟨x, ex⟩ : ∃ x, xs.getD k 0 = x := ⟨_, rfl⟩
        rw [ey] at g1 r1; rw [ex] at g2 r2
        obtain ⟨r, er, r3, r4⟩ := name_mod (p := p) (x - y) hp2.1
        have Ey := hid ey; have Ex := hid ex; have Er := hid er
        clear hcell ey ex er
        go_wp2_with fail
        refine (minus_any p x y _ Hp.out r2.1 r2.2 r1.1 r1.2).mono ?_; rintro _ w3 ⟨rfl, h3⟩
        have g3 := (Hrw.out.ext h3).2 k (by rw [hln.out]; omega)
        rw [Nat.zero_add] at g3
        have g4 := g3.1
        have f4 := g3.2
        have hs := hid ((Hrw.out.ext h3).set_ (i := k) (by rw [hln.out]; omega) r)
        rw [Nat.zero_add] at hs
        rw [Er.out]
        clear g3
        go_wp2_with fail
        go_roundw
        case rel => exact ⟨k + 1, l.set k r, by go_num, by omega, hid (by rw [List.length_set]; exact hln.out), hid (fun j => by
          rw [set_get l k j r (by rw [hln.out]; omega), hl2.out]
          by_cases e : k = j
          · subst e
            rw [if_pos rfl, if_pos (by omega), Ex.out, Ey.out, Er.out]
          · rw [if_neg e]
            by_cases e2 : j < k
            · rw [if_pos e2, if_pos (by omega)]
            · rw [if_neg e2, if_neg (by omega)]), hs.out, (hxw.trans h3).setCell hgw _⟩
        case measure => simp [intOf]; omega
      · obtain rfl : lb = k := by omega
        have hi := Hrw.out.ints' hln.out (Nat.le_refl n) (by omega)
        have ht := trimmed_any (some ⟨g, 0, none⟩) n l _ (by rw [hln.out]; exact hi)
        rw [hln.out] at ht
        have Ht := hid ht
        have Hi := hid hi
        clear ht hi
        go_wp2_with (go_at_call 93; refine Ht.out.mono ?_; rintro _ _ ⟨rfl, rfl⟩)
        go_ret
        have hrng : Rng p l := Rng.of_get fun j hj => by
          rw [hl2.out]
          split
          · exact mod_range _ hp2.1
          · exact Hx.out.getD hp2.1 j
        have htl : trimN l n = trimN l l.length := by rw [hln.out]
        refine ⟨_, trimL l, rfl, ?_, (trimL_pol hrng).1, (trimL_pol hrng).2.trans (Ser.ext_ fun j => ?_), hxw⟩
        · rw [htl]
          exact (Hi.out.take' _ (by rw [← htl, hln.out]; exact trimN_le _ _))
        · rw [hrng.co, hl2.out, Ser.sub_co, Hx.out.co, Hy.out.co]
          split
          · rfl
          · rw [getD_over (xs := ys) (by rw [Hlb.out]; omega), Int.sub_zero, mod_small (Hx.out.getD hp2.1 j).1 (Hx.out.getD hp2.1 j).2]
end Go.Proofs.Ytfpmcajndgkgeaa
