/- What the texts Own, Clone show, in one text. -/
import Derived.Test.YtijpeepdedfhoaaGreatBun06
import Derived.Lib.LazyBuf
import Derived.Laws.AppendOwn
import Derived.Laws.OwnMore
import Derived.Test.YtijpeepdedfhoaaGreatBun05
/- Rows that a call made and appends to: what they read as, appends of one number and of a whole slice, made slices. -/
namespace Go.Proofs.YtijpeepdedfhoaaGreat
open Go.RowKit Go.Maps

theorem info_u64p : (Tryz.prog.info? 22).map (fun i => (i.zero, i.size, i.bytes)) = some (some (.int .u64 0), 1, 8) := by kernel_rfl

theorem WRow.of_owns {w : World} {base n : Nat} {v : Value} {xs : List Int} (h : w.ownsRow base 22 1 v n (xs.map (Value.int .u64))) :
    ∃ a cap, v = .slice a n cap ∧ n ≤ cap ∧ cap ≤ 9223372036854775807 ∧ xs.length = n ∧ (0 < n → ∃ g, a = some ⟨g, 0, none⟩ ∧ base ≤ g ∧ WRow w g 0 xs) := by
  have hl : xs.length = n := by have := h.1; simpa using this
  have h0 := h
  obtain ⟨_, ⟨rfl, h1⟩ | ⟨g, cap, cur, rfl, hg, hb, hc1, hc2, hs, ht⟩⟩ := h
  · obtain rfl : n = 0 := by simpa using h1
    obtain rfl : xs = [] := List.eq_nil_of_length_eq_zero hl
    exact ⟨none, 0, rfl, by omega, by omega, rfl, fun h => by omega⟩
  · refine ⟨_, cap, rfl, hc1, by simpa [maxLen] using hc2, hl, fun hp => ⟨g, rfl, hg, ?_, fun j hj => ?_⟩⟩
    · exact Blk.lt (t := 22) (cs := cur) hb
    · rw [Nat.zero_add]
      refine ⟨?_, Blk.frozen (t := 22) (cs := cur) hb j⟩
      rw [h0.cellAt j (by omega)]
      simp [hj, List.getD]

theorem append_nil {P : Program} (w : World) (base : Nat) (t ty e : TypeId) (i : TypeInfo) (size k : Nat) (ht : P.underlying t = some (.slice e)) (hi : P.info? e = some i) (v : Value) (n : Nat) (xs : List Value) (hown : w.ownsRow base e size v n xs) :
    (Builtin.append_ #[t, t] ty #[v, .slice none 0 k]).run P w = .ok v w := by
  rcases hown.2 with ⟨rfl, rfl⟩ | ⟨g, cap, cur, rfl, _, _, h, _⟩
  · simp [Builtin.append_, run_underlying ht, sizeOf, typeInfo, hi, Builtin.lenOf, Builtin.firstCells]
  · simp [Builtin.append_, run_underlying ht, sizeOf, typeInfo, hi, Builtin.lenOf, Builtin.firstCells, h, storeCells]
theorem wpList_append_nil {P : Program} {ops : Array Oper} {rest : List Oper} {o : Oper} {a : Act} {Q : Exit → Act → World → Prop} {w : World} (hgd : o.guard = none) (s x : Operand) (t : TypeId)
    (ho : o.op = .call { callee := .builtin .append, args := #[s, x], argTypes := #[t, t] }) (base : Nat) (e : TypeId) (i : TypeInfo) (size k : Nat) (ht : P.underlying t = some (.slice e)) (hi : P.info? e = some i)
    (v : Value) (n : Nat) (xs : List Value) (hs : a.eval s = v) (hown : w.ownsRow base e size v n xs) (hx : a.eval x = .slice none 0 k) (h : wpList P ops Q rest (a.put o.dst v) w) : wpList P ops Q (o :: rest) a w :=
  wpList_plain hgd fun _ hK => by
    have hr := append_nil (P := P) w base t o.type e i size k ht hi v n xs hown
    unfold Oper.wp execOp
    simp only [ho, resolve, invoke, builtin, Sem.run_bind, Sem.run_pure, Result.andThen_ok, List.map_toArray, List.map_cons, List.map_nil, hs, hx, hr]
    exact hK _ _ h
theorem grown_refl (w : World) (r : Option Nat) : w.grownBy w r := ⟨rfl, rfl, rfl, Nat.le_refl _, fun _ _ _ => rfl⟩
theorem wpList_append_ints {P : Program} {ops : Array Oper} {rest : List Oper} {o : Oper} {a : Act} {Q : Exit → Act → World → Prop} {w : World} (hgd : o.guard = none) (s x : Operand) (t : TypeId)
    (ho : o.op = .call { callee := .builtin .append, args := #[s, x], argTypes := #[t, t] }) (base : Nat) (e : TypeId) (i : TypeInfo) (z : Value) (bytes : Nat) (ht : P.underlying t = some (.slice e)) (hi : P.info? e = some i)
    (hz : i.zero = some z) (hsize : i.size = 1) (hby : i.bytes = bytes) (hzs : z.cells.size = 1)
    (v : Value) (n : Nat) (xs : List Value) (hs : a.eval s = v) (hown : w.ownsRow base e 1 v n xs) (u : Value) (ss : List Int) (hx : a.eval x = u) (hI : Ints .u64 w u ss)
    (h63 : n + ss.length ≤ maxLen) (hbytes : (n + ss.length) * bytes ≤ 140737488355328) (hbase : base ≤ w.heap.size)
    (h : ∀ v' w', w'.ownsRow base e 1 v' (n + ss.length) (xs ++ ss.map (Value.int .u64)) → w.grownBy w' v.ownBlock → wpList P ops Q rest (a.put o.dst v') w') : wpList P ops Q (o :: rest) a w := by
  obtain ⟨ad, cap, rfl, k1, k2, k3⟩ := hI
  cases ad with
  | none =>
    have h0 : ss.length = 0 := by
      rcases Nat.eq_zero_or_pos ss.length with h | h
      · exact h
      · obtain ⟨b, off, e, _⟩ := k3 h; cases e
    obtain rfl : ss = [] := List.eq_nil_of_length_eq_zero h0
    refine wpList_append_nil hgd s x t ho base e i 1 cap ht hi v n xs hs hown hx ?_
    have := h v w (by simpa using hown) (grown_refl _ _)
    exact this
  | some ad =>
    refine wpList_append_own w hgd s x t ho base e i z 1 bytes ht hi hz hsize hby hzs (by omega) v n xs hs hown ad ss.length cap (ss.map (Value.int .u64)) hx (by simp) (fun j y hj => ?_) (fun y hy => ?_) h63 hbytes hbase fun v' w' h2 h3 _ => h v' w' h2 h3
    · have hjl : j < ss.length := by
        rcases Nat.lt_or_ge j ss.length with h | h
        · exact h
        · rw [List.getElem?_eq_none (by simpa using h)] at hj; cases hj
      obtain ⟨b, off, e, hb, hcell⟩ := k3 (by omega)
      injection e with e; subst e
      rw [show ((⟨b, off, none⟩ : Addr).add j) = ⟨b, off + j, none⟩ from Go.WideShapes.add_plain _ _ _, hcell j hjl]
      rw [List.getElem?_map, List.getElem?_eq_getElem hjl] at hj
      simp only [Option.map_some, Option.some.injEq] at hj
      rw [← hj]
      simp [List.getD, List.getElem?_eq_getElem hjl]
    · obtain ⟨q, _, rfl⟩ := List.mem_map.1 hy
      rfl
theorem own_made (w : World) (t : TypeId) (n c : Nat) (h1 : n ≤ c) (h2 : c ≤ 35184372088832) :
    (w.alloc (.cells (madeCells #[Value.int .u64 0] c) t)).ownsRow w.heap.size t 1 (.slice (some ⟨w.heap.size, 0, none⟩) n c) n ((List.replicate n (0 : Int)).map (Value.int .u64)) := by
  have hs : (madeCells #[Value.int .u64 0] c).size = c * 1 := by simp [madeCells]
  refine ⟨by simp, .inr ⟨w.heap.size, c, madeCells #[Value.int .u64 0] c, rfl, Nat.le_refl _, heap_alloc_new w _, h1, by unfold maxLen; omega, hs, ?_⟩⟩
  rw [toList_madeCells_one]
  simp [List.take_replicate, Nat.min_eq_left h1]
/-- answers whether P -/
def RetIff (P : Prop) (w : World) (e : Ending) (w' : World) : Prop := ∃ b : Bool, e = .returned (.bool b) ∧ Ext w w' ∧ (b = true ↔ P)
end Go.Proofs.YtijpeepdedfhoaaGreat
/- slices.Clone and slices.Reverse at numbers. -/
namespace Go.Proofs.YtijpeepdedfhoaaGreat
open Go.RowKit Go.Maps

set_option maxRecDepth 100000 in
set_option maxHeartbeats 1000000 in
theorem clone_own (v : Value) (xs : List Int) (w : World) (hv : Ints .u64 w v xs) (hl : xs.length ≤ 1000000) :
    Calls Tryz.prog 36 #[v] w fun e w' => ∃ v', e = .returned v' ∧ w'.ownsRow w.heap.size 22 1 v' xs.length (xs.map (Value.int .u64)) ∧ Ext w w' := by
  have q22 : ∀ (w : World) (a : Option Addr) (n c n' c' : Nat), (binOp .eql 23 (.slice a n c) (.slice none n' c')).run Tryz.prog w = .ok (.bool a.isNone) w := fun w a n c n' c' => Lib.run_eql_slice_nil w _ _ a n c n' c' Tryz.underlying23
  obtain ⟨a, cap, rfl, hc1, hc2, hc⟩ := hv
  cases a with
  | none =>
    have h0 : xs.length = 0 := by
      rcases Nat.eq_zero_or_pos xs.length with h | h
      · exact h
      · obtain ⟨b, off, e, _⟩ := hc h; cases e
    obtain rfl : xs = [] := List.eq_nil_of_length_eq_zero h0
    clear hc
    go_enter Tryz.func36, Tryz.ntmps36
    go_wp2_with fail
    go_ret
    exact ⟨_, rfl, World.ownsRow_nil _ _ _ _, (by repeat (first | exact Ext.refl _ | assumption | refine Ext.drew ?_ | refine Ext.drewN ?_ _ | refine Ext.alloc ?_ _ | refine Ext.trans ?_ (by assumption)))⟩
  | some ad =>
    obtain ⟨i0, hi, hz0, hz1, hz2⟩ := info_parts info_u64p
    have hnews : ∀ j u, (xs.map (Value.int .u64))[j]? = some u → (w.alloc (.cells #[] 22)).cell? (ad.add j) = some u := fun j u hj => by
      have hjl : j < xs.length := by
        rcases Nat.lt_or_ge j xs.length with h | h
        · exact h
        · rw [List.getElem?_eq_none (by simpa using h)] at hj; cases hj
      obtain ⟨b, off, e, hb, hcell⟩ := hc (by omega)
      injection e with e; subst e
      rw [show ((⟨b, off, none⟩ : Addr).add j) = ⟨b, off + j, none⟩ from Go.WideShapes.add_plain _ _ _, ((Ext.refl w).alloc _).cells _ _ hb, hcell j hjl]
      rw [List.getElem?_map, List.getElem?_eq_getElem hjl] at hj
      simp only [Option.map_some, Option.some.injEq] at hj
      rw [← hj]
      simp [List.getD, List.getElem?_eq_getElem hjl]
    have hone : ∀ u ∈ xs.map (Value.int .u64), u.oneCell' = true := by
      intro u hu
      obtain ⟨y, _, rfl⟩ := List.mem_map.1 hu
      rfl
    have hlm : (xs.map (Value.int .u64)).length = xs.length * 1 := by simp
    obtain ⟨cs, hcs⟩ : ∃ cs, xs.map (Value.int .u64) = cs := ⟨_, rfl⟩
    rw [hcs] at hnews hone hlm
    have Hn := hid hnews; have Ho := hid hone; have Hl := hid hlm
    have Hown := hid (World.ownsRow_lit (base := w.heap.size) (e := 22) (size := 1) w #[] 0 (Nat.le_refl _) (by simp [maxLen]) rfl)
    have Hcs := hid hcs
    clear hnews hone hlm hc hcs
    go_enter Tryz.func36, Tryz.ntmps36
    go_wp2_with (at_builtin; refine wpList_append_own _ rfl _ _ 23 rfl w.heap.size 22 i0 (.int .u64 0) 1 8 Tryz.underlying23 hi hz0 hz1 hz2 rfl (by decide) _ 0 [] rfl Hown.out ad xs.length cap cs rfl Hl.out Hn.out Ho.out (by simp only [maxLen]; omega) (by omega) (by simp) ?_; intro v' w1 hown1 hgrow1 _)
    go_ret
    have hx : Ext w w1 := ((Ext.refl w).alloc _).grown hgrow1 (fun k e => by cases e; exact Nat.le_refl _)
    rw [Nat.zero_add, List.nil_append, ← Hcs.out] at hown1
    exact ⟨_, rfl, hown1, hx⟩
theorem clone_any (v : Value) (xs : List Int) (w : World) (hv : Ints .u64 w v xs) (hl : xs.length ≤ 1000000) :
    Calls Tryz.prog 36 #[v] w fun e w' => ∃ a cap, e = .returned (.slice a xs.length cap) ∧ xs.length ≤ cap ∧ cap ≤ 9223372036854775807 ∧
      (0 < xs.length → ∃ g, a = some ⟨g, 0, none⟩ ∧ w.heap.size ≤ g ∧ WRow w' g 0 xs) ∧ Ext w w' :=
  (clone_own v xs w hv hl).mono fun e w' ⟨v', he, ho, hx⟩ => by
    obtain ⟨a', cap', rfl, h1, h2, h3, h4⟩ := WRow.of_owns ho
    exact ⟨a', cap', he, h1, h2, h4, hx⟩

theorem rev_get (xs : List Int) {j : Nat} (h : j < xs.length) : xs.reverse.getD j 0 = xs.getD (xs.length - 1 - j) 0 := by
  simp [List.getD, h, show xs.length - 1 - j < xs.length by omega]

set_option maxHeartbeats 1000000 in
theorem reverse_any (g n cap : Nat) (xs : List Int) (w w0 : World) (hn : xs.length = n) (h1 : 1 ≤ n) (hc2 : n ≤ 1000000) (hr : WRow w g 0 xs) (h0 : Ext w0 w) (hg : w0.heap.size ≤ g) :
    Calls Tryz.prog 106 #[.slice (some ⟨g, 0, none⟩) n cap] w fun e w' => (∃ v, e = .returned v) ∧ WRow w' g 0 xs.reverse ∧ Ext w0 w' := by
  have Hn := hid hn; have Hr := hid hr
  clear hn hr
  go_enter Tryz.func106, Tryz.ntmps106
  go_wp2_with fail
  go_loopw [2, 3] (fun i j wr => ∃ (k m : Nat) (l : List Int), i = .int .i64 k ∧ j = .int .i64 m ∧ k + m + 1 = n ∧ k ≤ m + 1 ∧ Hid (l.length = n) ∧ Hid (∀ t, t < n → l.getD t 0 = if t < k ∨ m < t then xs.getD (n - 1 - t) 0 else xs.getD t 0) ∧ WRow wr g 0 l ∧ Ext w0 wr) (fun _ j _ => (intOf j).toNat)
  case atStart => exact ⟨0, n - 1, xs, rfl, by go_num, by omega, by omega, Hn, hid (fun t ht => by rw [if_neg (by omega)]), Hr.out, h0⟩
  case round =>
    obtain ⟨k, m, l, rfl, rfl, hkm, hk1, hl, hget, hrw, hxw⟩ := hrel
    have Hrw := hid hrw
    clear hrw
    by_cases hlt : k < m
    · have c1 := (Hrw.out.2 k (by rw [hl.out]; omega)).1
      have f1 := (Hrw.out.2 k (by rw [hl.out]; omega)).2
      have c2 := (Hrw.out.2 m (by rw [hl.out]; omega)).1
      have f2 := (Hrw.out.2 m (by rw [hl.out]; omega)).2
      rw [Nat.zero_add] at c1 f1 c2 f2
      obtain ⟨x, ex⟩ : ∃ x, l.getD k 0 = x := ⟨_, rfl⟩
      obtain ⟨y, ey⟩ : ∃ y, l.getD m 0 = y := ⟨_, rfl⟩
      rw [ex] at c1; rw [ey] at c2
      have hs : Hid (∀ q, WRow (((wr.drewN q).setCell ⟨g, k, none⟩ (.int .u64 y)).setCell ⟨g, m, none⟩ (.int .u64 x)) g 0 ((l.set k y).set m x)) := hid (fun q => by
        have h2 := ((Hrw.out.ext ((Ext.refl _).drewN q)).set_ (i := k) (by rw [hl.out]; omega) y).set_ (i := m) (by rw [List.length_set, hl.out]; omega) x
        rw [Nat.zero_add, Nat.zero_add] at h2
        exact h2)
      have Ex := hid ex; have Ey := hid ey
      clear ex ey
      go_wp2_with fail
      go_region
      go_wp2_with fail
      go_roundw
      case rel =>
        refine ⟨k + 1, m - 1, (l.set k y).set m x, by go_num, by go_num, by omega, by omega, hid (by rw [List.length_set, List.length_set]; exact hl.out), hid (fun t ht => ?_), hs.out _, ((hxw.drewN _).setCell hg _).setCell hg _⟩
        rw [set_get _ _ _ _ (by rw [List.length_set, hl.out]; omega), set_get _ _ _ _ (by rw [hl.out]; omega)]
        by_cases e : m = t
        · subst e
          rw [if_pos rfl, if_pos (by omega), ← Ex.out, hget.out k (by omega), if_neg (by omega), show n - 1 - m = k by omega]
        · rw [if_neg e]
          by_cases e2 : k = t
          · subst e2
            rw [if_pos rfl, if_pos (by omega), ← Ey.out, hget.out m (by omega), if_neg (by omega), show n - 1 - k = m by omega]
          · rw [if_neg e2, hget.out t ht]
            by_cases e3 : t < k ∨ m < t
            · rw [if_pos e3, if_pos (by omega)]
            · rw [if_neg e3, if_neg (by omega)]
      case measure => simp [intOf]; omega
    · go_wp2_with fail
      go_end0
      refine ⟨⟨_, rfl⟩, ?_, hxw⟩
      have e : xs.reverse = l := list_ext (by rw [List.length_reverse, hl.out]; exact Hn.out) fun t ht => by
        rw [List.length_reverse, Hn.out] at ht
        rw [rev_get xs (by rw [Hn.out]; exact ht), hget.out t ht, Hn.out]
        split
        · rfl
        · rw [show n - 1 - t = t by omega]
      rw [e]
      exact Hrw.out
end Go.Proofs.YtijpeepdedfhoaaGreat
