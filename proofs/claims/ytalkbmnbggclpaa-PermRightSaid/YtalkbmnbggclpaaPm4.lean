/- Package perm: the rings of an order. -/
import Derived.Test.YtalkbmnbggclpaaPm1
import Derived.Test.YtalkbmnbggclpaaPmC
namespace Go.Proofs.Ytalkbmnbggclpaa
open Go.RowKit Go.Maps

/-- blocks below are as they were, but one -/
def Kept (g : Nat) (a w : World) : Prop := a.heap.size ≤ w.heap.size ∧ ∀ b, b < a.heap.size → b ≠ g → w.heap[b]? = a.heap[b]?
theorem Kept.refl (g : Nat) (a : World) : Kept g a a := ⟨Nat.le_refl _, fun _ _ _ => rfl⟩
theorem Kept.set_ {g : Nat} {a w : World} (h : Kept g a w) (i : Nat) (u : Value) : Kept g a (w.setCell ⟨g, i, none⟩ u) :=
  ⟨by simpa [World.setCell] using h.1, fun b hb hg => (Below.heap_setCell w ⟨g, i, none⟩ u b hg).trans (h.2 b hb hg)⟩
theorem Kept.grown {g : Nat} {a w w' : World} {row : Option Nat} (h : Kept g a w) (hg : w.grownBy w' row) (hr : ∀ k, row = some k → a.heap.size ≤ k) : Kept g a w' :=
  ⟨Nat.le_trans h.1 hg.size, fun b hb hne => (hg.block b (Nat.lt_of_lt_of_le hb h.1) (fun e => by have := hr b e.symm; omega)).trans (h.2 b hb hne)⟩
theorem Kept.ext {g : Nat} {a w w' : World} (h : Kept g a w) (he : Ext w w') : Kept g a w' :=
  ⟨Nat.le_trans h.1 he.size, fun b hb hne => (he.block b (Nat.lt_of_lt_of_le hb h.1)).trans (h.2 b hb hne)⟩
theorem ownsRow_but {g : Nat} {w w' : World} {base : Nat} {e t : TypeId} {size n : Nat} {v : Value} {xs : List Value} {cs : Array Value} (h : w.ownsRow base e size v n xs) (hk : Kept g w w') (hB : Blk w g t cs) (hne : e ≠ t) : w'.ownsRow base e size v n xs := by
  have hb := ownsRow_blk h hB hne
  refine ⟨h.1, ?_⟩
  rcases h.2 with hn | ⟨g', cap, cur, rfl, hb', hg, r⟩
  · exact .inl hn
  · refine .inr ⟨g', cap, cur, rfl, hb', (hk.2 g' (Array.getElem?_eq_some_iff.1 hg).1 fun e => ?_).trans hg, r⟩
    rcases hb with hb | hb
    · simp [Value.ownBlock] at hb
    · exact hb (by rw [← e]; rfl)
theorem RowsI.but {g : Nat} {w0 w w' : World} {rv : Value} {us : List Value} {ls : List (List Int)} {t : TypeId} {cs : Array Value} (h : RowsI w0 w rv us ls) (hk : Kept g w w') (hB : Blk w g t cs) (h1 : 22 ≠ t) (h2 : 3 ≠ t) (he : Ext w0 w') : RowsI w0 w' rv us ls :=
  ⟨ownsRow_but h.own hk hB h1, h.len, fun j hj => ownsRow_but (h.row j hj) hk hB h2, he⟩

/-- who has been seen: whose rings were told, and the first so many of one's own -/
def seenL (p : List Int) (s j : Nat) : List Int := (ringsTo p s).flatten ++ tab j fun i => (itL p i s : Int)
theorem seenL_succ (p : List Int) (s j : Nat) : seenL p s (j + 1) = seenL p s j ++ [(itL p j s : Int)] := by
  unfold seenL
  rw [tab_succ, List.append_assoc]
section
variable {n : Nat} {p : List Int}
theorem seenL_zero (p : List Int) (s : Nat) : seenL p s 0 = (ringsTo p s).flatten := by simp [seenL, tab]
theorem seenL_full {s : Nat} (h : leastB p s = true) : seenL p s (perL p s) = (ringsTo p (s + 1)).flatten := by
  rw [ringsTo_some h, List.flatten_append]
  simp [seenL, ringL]
theorem Ord.seen_old (h : Ord n p) {s : Nat} (hs : s < n) (hl : leastB p s = false) : (s : Int) ∈ seenL p s 0 := by
  rw [seenL_zero]
  obtain ⟨t, h1, h2, h3⟩ := h.has_least s s (Nat.le_refl _) hs
  have h4 := leastB_true h2 h3
  rcases Nat.lt_or_ge t s with hlt | hge
  · exact List.mem_flatten.2 ⟨_, ringsTo_mem.2 ⟨t, hlt, h2, rfl⟩, h3⟩
  · have : t = s := by omega
    subst this
    rw [h2] at hl; cases hl
theorem Ord.seen_new (h : Ord n p) {s j : Nat} (hs : s < n) (hl : leastB p s = true) (hj : j < perL p s) : (itL p j s : Int) ∉ seenL p s j := by
  intro hm
  rcases List.mem_append.1 hm with hm | hm
  · obtain ⟨l, h1, h2⟩ := List.mem_flatten.1 hm
    obtain ⟨t, h3, h4, rfl⟩ := ringsTo_mem.1 h1
    have := h.rings_apart (by omega) hs h4 hl h2 (ringL_mem.2 ⟨j, hj, rfl⟩)
    omega
  · simp only [tab, List.mem_map, List.mem_range] at hm
    obtain ⟨i, hi, e⟩ := hm
    have hn := List.pairwise_iff_getElem.1 (h.ring_nodup hs)
    have := hn i j (by rw [ringL_len]; omega) (by rw [ringL_len]; omega) hi
    apply this
    have g1 := ringL_get (p := p) (x := s) (k := i) (by omega)
    have g2 := ringL_get (p := p) (x := s) (k := j) hj
    simp only [List.getD, List.getElem?_eq_getElem (show i < (ringL p s).length by rw [ringL_len]; omega), List.getElem?_eq_getElem (show j < (ringL p s).length by rw [ringL_len]; omega), Option.getD_some] at g1 g2
    rw [g1, g2]; omega
theorem Ord.seen_end (h : Ord n p) {s : Nat} (hs : s < n) : (itL p (perL p s) s : Int) ∈ seenL p s (perL p s) := by
  obtain ⟨h1, _, h3, _⟩ := h.per hs
  rw [h3]
  refine List.mem_append_right _ ?_
  simp only [tab, List.mem_map, List.mem_range]
  exact ⟨0, h1, rfl⟩
end

set_option maxRecDepth 100000 in
set_option maxHeartbeats 2000000 in
theorem ordRings (v : Value) (n : Nat) (p : List Int) (w : World) (hv : Ints .i64 w v p) (hp : Ord n p) (h0 : 0 < n) (hn : n ≤ 64) : Calls Try.prog 42 #[v] w (RetII (ringsL p) w) := by
  obtain ⟨i0, hi, hz0, hz1, hz2⟩ := info_parts info_i64p
  obtain ⟨j0, hj, hj0, hj1, hj2⟩ := info_parts info_sip
  have Hp := hid hp
  have hrings : ringsL p = ringsTo p n := by unfold ringsL; rw [hp.len]
  rw [hrings]
  obtain ⟨a, cap, rfl, k1, k2, k3⟩ := hv
  have el := hp.len
  obtain ⟨b, off, rfl, hb, hc⟩ := k3 (by omega)
  rw [el] at k1 hc ⊢
  have Hc := hid hc
  clear k3 hp hrings el hc
  go_enter Try.func42, Try.ntmps42
  go_wp2_with fail
  obtain ⟨g, hg⟩ : ∃ g, w.heap.size = g := ⟨_, rfl⟩
  have hgw : w.heap.size ≤ g := by omega
  go_loopw [10, 3] (fun iv rv wr => ∃ (s : Nat) (us : List Value) (cs : Array Value), iv = .int .i64 s ∧ s ≤ n ∧ Hid (RowsI w wr rv us (ringsTo p s)) ∧ Hid (us.length ≤ s) ∧ Hid (Blk wr g 80 cs) ∧ Hid (∀ y, y < 64 → cs[y]? = some (.bool (decide ((y : Int) ∈ seenL p s 0))))) (fun iv _ _ => n - (intOf iv).toNat)
  case atStart => exact ⟨0, [], _, rfl, Nat.zero_le _, hid ((RowsI.start w).ext' ((Ext.refl _).alloc _)), hid (Nat.zero_le _), hid (hg ▸ Blk.new _ _ _), hid (fun y hy => by show (Array.replicate 64 (Value.bool false))[y]? = _; simp [hy, seenL, ringsTo, tab])⟩
  case round =>
    obtain ⟨s, us, cs, rfl, hs, HR, hus, hbl, hcs⟩ := hrel
    rename World => wo
    have hxo := HR.out.ext
    have husb := hus.out
    by_cases hlt : s < n
    · have per := hid (Hp.out.per hlt)
      rw [hg]
      go_wp2_with fail
      go_loopw [7, 6] (fun kv gv wr => ∃ (j k : Nat) (cs : Array Value), kv = .int .i64 k ∧ k < n ∧ j ≤ n ∧ Hid (j ≤ perL p s) ∧ Hid (k = itL p j s) ∧ Hid (leastB p s = false → j = 0) ∧ Hid (wr.ownsRow wo.heap.size 3 1 gv j ((tab j fun i => (itL p i s : Int)).map (Value.int .i64))) ∧ Hid (Blk wr g 80 cs) ∧ Hid (∀ y, y < 64 → cs[y]? = some (.bool (decide ((y : Int) ∈ seenL p s j)))) ∧ Kept g wo wr ∧ Ext w wr) (fun _ gv _ => perL p s - lenV gv)
      case atStart => exact ⟨0, s, cs, rfl, hlt, Nat.zero_le _, hid (Nat.zero_le _), hid rfl, hid (fun _ => rfl), hid (World.ownsRow_nil _ _ _ _), hbl, hcs, Kept.refl _ _, hxo⟩
      case round =>
        rename World => wi
        obtain ⟨j, k, cs2, rfl, hkn, hjn, hjp, hk, hj0', hown, hbl2, hcs2, hkp, hxi⟩ := hrel
        obtain ⟨ag, cg, rfl, hlg, hIg⟩ := owns_ints hown.out
        clear hIg hlg
        have gX := (hbl2.out.cell k).trans (hcs2.out k (by omega))
        have gF := hbl2.out.frozen k
        have hsz : k < cs2.size := (Array.getElem?_eq_some_iff.1 (hcs2.out k (by omega))).1
        obtain ⟨B, eB⟩ : ∃ B, decide ((k : Int) ∈ seenL p s j) = B := ⟨_, rfl⟩
        rw [eB] at gX
        have EB := hid eB
        have hwsz := hkp.1
        clear eB
        cases B with
        | true =>
          have hmem := hid (of_decide_eq_true EB.out)
          cases hl : leastB p s with
          | false =>
            have hj0 : j = 0 := hj0'.out hl
            subst hj0
            have hrs := hid (ringsTo_none hl)
            have HR2 := hid (HR.out.but hkp hbl.out (by decide) (by decide) hxi)
            clear hl
            go_wp2_with fail
            go_roundw
            case rel => exact ⟨s + 1, us, cs2, by go_num, by omega, hid (by rw [hrs.out]; exact HR2.out), hid (by omega), hbl2, hid (fun y hy => by rw [seenL_zero, hrs.out, ← seenL_zero]; exact hcs2.out y hy)⟩
            case measure => simp [intOf]; omega
          | true =>
            have hjq : j = perL p s := by
              rcases Nat.lt_or_ge j (perL p s) with h | h
              · exfalso
                exact Hp.out.seen_new hlt hl h (by rw [← hk.out]; exact hmem.out)
              · have := hjp.out; omega
            have hjpos : 0 < j := by rw [hjq]; exact per.out.1
            have d1 : decide (0 < (j : Int)) = true := decide_eq_true (by omega)
            have d2 : decide (0 < j) = true := decide_eq_true hjpos
            have hring := hid (show wi.ownsRow w.heap.size 3 1 (.slice ag j cg) (ringL p s).length ((ringL p s).map (Value.int .i64)) by
              rw [ringL_len, ← hjq]
              have e : ringL p s = tab j fun i => (itL p i s : Int) := by rw [hjq]; rfl
              rw [e]
              exact ownsRow_low hown.out hxo.size)
            have hrs := hid (ringsTo_some hl)
            have hfull := hid (show seenL p (s + 1) 0 = seenL p s j by rw [seenL_zero, hjq, seenL_full hl])
            have HR2 := hid (HR.out.but hkp hbl.out (by decide) (by decide) hxi)
            have hsz2 := HR2.out.ext.size
            clear hjq hl
            go_wp2_with (first | (at_builtin; refine wpList_append_own _ rfl _ _ 37 rfl w.heap.size 22 j0 (.slice none 0 0) 1 24 Try.underlying37 hj hj0 hj1 hj2 rfl (by decide) u3 us.length us rfl (HR2.out.own.alloc _) ⟨wi.heap.size, 0, none⟩ 1 1 [.slice ag j cg] rfl rfl (cells_new _ _ _ (by simp)) (by simp [Value.oneCell']) (by simp only [maxLen]; omega) (by omega) (by simp; omega) ?_; intro v' w6 hown6 hgrow6 hnil6) | fail)
            have hfin := hid ((HR2.out.ext' ((Ext.refl _).alloc _)).next (hring.out.alloc _) hown6 hgrow6)
            have hb6 := hid ((hbl2.out.ext ((Ext.refl _).alloc _)).grown hgrow6 (by
              rcases ownsRow_blk HR2.out.own hbl2.out (by decide) with e | e
              · rw [e]; simp
              · exact e))
            go_roundw
            case rel => exact ⟨s + 1, us ++ [.slice ag j cg], cs2, by go_num, by omega, hid (by rw [hrs.out]; exact hfin.out), hid (by simp; omega), hb6, hid (fun y hy => by rw [hfull.out]; exact hcs2.out y hy)⟩
            case measure => simp [intOf]; omega
        | false =>
          have hmem := hid (of_decide_eq_false EB.out)
          have hl : leastB p s = true := by
            cases hl : leastB p s with
            | true => rfl
            | false =>
              exfalso
              have hj0 : j = 0 := hj0'.out hl
              have e : k = s := by rw [hk.out, hj0]; rfl
              exact hmem.out (by rw [e, hj0]; exact Hp.out.seen_old hlt hl)
          have hjlt : j < perL p s := by
            rcases Nat.lt_or_ge j (perL p s) with h | h
            · exact h
            · exfalso
              have e : j = perL p s := by have := hjp.out; omega
              exact hmem.out (by rw [hk.out, e]; exact Hp.out.seen_end hlt)
          have hpn := per.out.2.1
          have hjn2 : j < 64 := by omega
          have Hl := hid hl
          have hr := Hp.out.get hkn
          have hnext := hid (show itL p (j + 1) s = (p.getD k 0).toNat by rw [hk.out]; rfl)
          have g1 := hid (fun (W : World) (hW : Ext w W) => (hW.cells _ _ hb).trans (Hc.out k hkn))
          obtain ⟨y, ey⟩ : ∃ y, p.getD k 0 = y := ⟨_, rfl⟩
          rw [ey] at g1 hr hnext
          obtain ⟨t, rfl⟩ := Int.eq_ofNat_of_zero_le hr.1
          rw [Int.toNat_natCast] at hnext
          have htn : t < n := by omega
          have happ := hid (show ((tab j fun i => (itL p i s : Int)).map (Value.int .i64)) ++ [Value.int .i64 (k : Int)] = (tab (j + 1) fun i => (itL p i s : Int)).map (Value.int .i64) by rw [tab_succ, List.map_append, hk.out]; rfl)
          have Hjlt := hid hjlt
          have hxs : Ext w (wi.setCell ⟨g, k, none⟩ (.bool true)) := hxi.setCell (p := ⟨g, k, none⟩) hgw _
          have hks := hkp.set_ k (.bool true)
          have hbs := hid (hbl2.out.set_ k (.bool true))
          have hos := hid (show (wi.setCell ⟨g, k, none⟩ (.bool true)).ownsRow wo.heap.size 3 1 (.slice ag j cg) j ((tab j fun i => (itL p i s : Int)).map (Value.int .i64)) from hown.out.kept (setCell_grown _ _ _) (ownsRow_blk hown.out hbl2.out (by decide)))
          have hszs : wo.heap.size ≤ (wi.setCell ⟨g, k, none⟩ (.bool true)).heap.size := hks.1
          clear ey hl hjlt hr hwsz
          go_wp2_with (first | (at_builtin; refine wpList_append_own _ rfl _ _ 22 rfl wo.heap.size 3 i0 (.int .i64 0) 1 8 Try.underlying22 hi hz0 hz1 hz2 rfl (by decide) (.slice ag j cg) j _ rfl (hos.out.alloc _) ⟨wi.heap.size, 0, none⟩ 1 1 [.int .i64 (k : Int)] rfl rfl (cells_new _ _ _ (by simp [World.setCell])) (by simp [Value.oneCell']) (by simp only [maxLen]; omega) (by omega) (by simp [World.setCell] at hszs ⊢; omega) ?_; intro v' w6 hown6 hgrow6 hnil6; have hx6 := (hxs.alloc (.cells #[.int .i64 (k : Int)] 3)).grown hgrow6 (fun t e => Nat.le_trans hxo.size (hown.out.lt t e).1); have g6 := g1.out w6 hx6) | fail)
          obtain ⟨a6, c6, rfl, _, _⟩ := owns_ints (xs := tab (j + 1) fun i => (itL p i s : Int)) (happ.out ▸ hown6)
          have hk6 := (hks.ext ((Ext.refl _).alloc (.cells #[.int .i64 (k : Int)] 3))).grown hgrow6 (fun t e => (hown.out.lt t e).1)
          have hb6 := hid ((hbs.out.ext ((Ext.refl _).alloc (.cells #[.int .i64 (k : Int)] 3))).grown hgrow6 (by
            rcases ownsRow_blk hown.out hbl2.out (by decide) with e | e
            · rw [e]; simp
            · exact e))
          go_roundw
          case rel =>
            refine ⟨j + 1, t, _, rfl, htn, by have := Hjlt.out; omega, hid (by have := Hjlt.out; omega), hid hnext.out.symm, hid (fun h => by rw [Hl.out] at h; cases h), hid (by rw [← happ.out]; exact hown6), hb6, hid (fun y hy => ?_), hk6, hx6⟩
            rw [Array.getElem?_setIfInBounds, seenL_succ, ← hk.out]
            by_cases e : k = y
            · subst e
              rw [if_pos rfl, if_pos hsz]
              congr 2
              symm
              exact decide_eq_true (by simp)
            · rw [if_neg e, hcs2.out y hy]
              congr 2
              rw [decide_eq_decide]
              simp only [List.mem_append, List.mem_singleton]
              exact ⟨.inl, fun h => h.resolve_right (by omega)⟩
          case measure => have := Hjlt.out; simp [lenV]; omega
    · obtain rfl : s = n := by omega
      have hI := hid HR.out.ints
      clear HR
      go_wp2_with fail
      go_ret
      exact ⟨_, rfl, hI.out, hxo⟩

set_option maxHeartbeats 400000 in
theorem askRings (v : Value) (p : List Int) (w : World) (hv : Ints .i64 w v p) : Calls Try.prog 41 #[v, .func (.func 42) #[] #[]] w (RetGII (ordB p) (ringsL p) w) := by
  have C1 := qmRight v p w hv
  have C2 := hid fun (hB : ordB p = true) (W : World) (hW : Ext w W) => ordRings v p.length p W (hv.ext hW) (ordB_iff.1 hB).2.2 (ordB_iff.1 hB).1 (ordB_iff.1 hB).2.1
  cases hp : ordB p with
  | false =>
    rw [hp] at C1
    have C := hid C1
    clear C1 C2 hp
    go_enter Try.func41, Try.ntmps41
    go_wp2_with (go_at_call 16; refine C.out.mono ?_; rintro _ w1 ⟨rfl, x1⟩)
    go_ret2
    exact ⟨_, _, _, rfl, IntsL.nil, rfl, rfl, x1⟩
  | true =>
    rw [hp] at C1
    have C := hid C1
    have D := hid (C2.out hp)
    clear C1 C2 hp
    go_enter Try.func41, Try.ntmps41
    go_wp2_with (first
      | (go_at_call 16; refine C.out.mono ?_; rintro _ w1 ⟨rfl, x1⟩)
      | (go_at_call 42; refine (D.out _ x1).mono ?_; rintro _ w2 ⟨r, rfl, h1, x2⟩))
    go_ret2
    exact ⟨_, _, _, rfl, h1, rfl, rfl, x1.trans x2⟩
set_option maxHeartbeats 400000 in
theorem qmRings (v : Value) (p : List Int) (w : World) (hv : Ints .i64 w v p) : Calls Try.prog 13 #[v] w (RetGII (ordB p) (ringsL p) w) := by
  have C := hid (askRings v p w hv)
  clear hv
  go_enter Try.func13, Try.ntmps13
  go_wp2_with (go_at_call 41; refine C.out.mono ?_; rintro _ w1 ⟨r, l, ee, rfl, h1, h2, h3, x1⟩; have H2 := hid h2; have H3 := hid h3; clear h2 h3)
  go_ret2
  exact ⟨_, _, _, rfl, h1, H2.out, H3.out, x1⟩
end Go.Proofs.Ytalkbmnbggclpaa
