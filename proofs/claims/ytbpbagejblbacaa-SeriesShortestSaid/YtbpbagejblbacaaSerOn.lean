/- How a row goes on by a rule: series.On. -/
import Derived.Test.YtbpbagejblbacaaSerC
import Derived.Laws.AppendOwn
import Derived.Laws.OwnMore
namespace Go.Proofs.Ytbpbagejblbacaa
open Go.RowKit Go.Maps

theorem append_nil {P : Program} (w : World) (base : Nat) (t ty e : TypeId) (i : TypeInfo) (size k : Nat) (ht : P.underlying t = some (.slice e)) (hi : P.info? e = some i) (v : Value) (n : Nat) (xs : List Value) (hown : w.ownsRow base e size v n xs) :
    (Builtin.append_ #[t, t] ty #[v, .slice none 0 k]).run P w = .ok v w := by
  rcases hown.2 with ⟨rfl, rfl⟩ | ⟨g, cap, cur, rfl, _, _, h, _⟩
  · simp [Builtin.append_, run_underlying ht, sizeOf, typeInfo, hi, Builtin.lenOf, Builtin.firstCells]
  · simp [Builtin.append_, run_underlying ht, sizeOf, typeInfo, hi, Builtin.lenOf, Builtin.firstCells, h, storeCells]
theorem wpList_append_nil {P : Program} {ops : Array Oper} {rest : List Oper} {o : Oper} {a : Act} {Q : Exit → Act → World → Prop} {w : World} (hgd : o.guard = none) (s x : Operand) (t : TypeId)
    (ho : o.op = .call { callee := .builtin .append, args := #[s, x], argTypes := #[t, t] }) (base : Nat) (e : TypeId) (i : TypeInfo) (size k : Nat) (ht : P.underlying t = some (.slice e)) (hi : P.info? e = some i)
    (v : Value) (n : Nat) (xs : List Value) (hs : a.eval s = v) (hown : w.ownsRow base e size v n xs) (hx : a.eval x = .slice none 0 k) (h : wpList P ops Q rest (a.put o.dst v) w) : wpList P ops Q (o :: rest) a w :=
  wpList_plain hgd fun _ hK => by
    have hr := append_nil (P := P) w base t o.type e i size k ht hi v n xs hown
    unfold Oper.wp execOp
    simp only [ho, resolve, invoke, builtin, Sem.run_bind, Sem.run_pure, Result.andThen_ok, List.map_toArray, List.map_cons, List.map_nil, hs, hx, hr]
    exact hK _ _ h
theorem grown_refl (w : World) (r : Option Nat) : w.grownBy w r := ⟨rfl, rfl, rfl, Nat.le_refl _, fun _ _ _ => rfl⟩
theorem wpList_append_ints {P : Program} {ops : Array Oper} {rest : List Oper} {o : Oper} {a : Act} {Q : Exit → Act → World → Prop} {w : World} (hgd : o.guard = none) (s x : Operand) (t : TypeId)
    (ho : o.op = .call { callee := .builtin .append, args := #[s, x], argTypes := #[t, t] }) (base : Nat) (e : TypeId) (i : TypeInfo) (z : Value) (bytes : Nat) (ht : P.underlying t = some (.slice e)) (hi : P.info? e = some i)
    (hz : i.zero = some z) (hsize : i.size = 1) (hby : i.bytes = bytes) (hzs : z.cells.size = 1)
    (v : Value) (n : Nat) (xs : List Value) (hs : a.eval s = v) (hown : w.ownsRow base e 1 v n xs) (u : Value) (ss : List Int) (hx : a.eval x = u) (hI : Ints .u64 w u ss)
    (h63 : n + ss.length ≤ maxLen) (hbytes : (n + ss.length) * bytes ≤ 140737488355328) (hbase : base ≤ w.heap.size)
    (h : ∀ v' w', w'.ownsRow base e 1 v' (n + ss.length) (xs ++ ss.map (Value.int .u64)) → w.grownBy w' v.ownBlock → wpList P ops Q rest (a.put o.dst v') w') : wpList P ops Q (o :: rest) a w := by
  obtain ⟨ad, cap, rfl, k1, k2, k3⟩ := hI
  cases ad with
  | none =>
    have h0 : ss.length = 0 := by
      rcases Nat.eq_zero_or_pos ss.length with h | h
      · exact h
      · obtain ⟨b, off, e, _⟩ := k3 h; cases e
    obtain rfl : ss = [] := List.eq_nil_of_length_eq_zero h0
    refine wpList_append_nil hgd s x t ho base e i 1 cap ht hi v n xs hs hown hx ?_
    have := h v w (by simpa using hown) (grown_refl _ _)
    exact this
  | some ad =>
    refine wpList_append_own w hgd s x t ho base e i z 1 bytes ht hi hz hsize hby hzs (by omega) v n xs hs hown ad ss.length cap (ss.map (Value.int .u64)) hx (by simp) (fun j y hj => ?_) (fun y hy => ?_) h63 hbytes hbase fun v' w' h2 h3 _ => h v' w' h2 h3
    · have hjl : j < ss.length := by
        rcases Nat.lt_or_ge j ss.length with h | h
        · exact h
        · rw [List.getElem?_eq_none (by simpa using h)] at hj; cases hj
      obtain ⟨b, off, e, hb, hcell⟩ := k3 (by omega)
      injection e with e; subst e
      rw [show ((⟨b, off, none⟩ : Addr).add j) = ⟨b, off + j, none⟩ from Go.WideShapes.add_plain _ _ _, hcell j hjl]
      rw [List.getElem?_map, List.getElem?_eq_getElem hjl] at hj
      simp only [Option.map_some, Option.some.injEq] at hj
      rw [← hj]
      simp [List.getD, List.getElem?_eq_getElem hjl]
    · obtain ⟨q, _, rfl⟩ := List.mem_map.1 hy
      rfl
theorem own_made (w : World) (t : TypeId) (n c : Nat) (h1 : n ≤ c) (h2 : c ≤ 35184372088832) :
    (w.alloc (.cells (madeCells #[Value.int .u64 0] c) t)).ownsRow w.heap.size t 1 (.slice (some ⟨w.heap.size, 0, none⟩) n c) n ((List.replicate n (0 : Int)).map (Value.int .u64)) := by
  have hs : (madeCells #[Value.int .u64 0] c).size = c * 1 := by simp [madeCells]
  refine ⟨by simp, .inr ⟨w.heap.size, c, madeCells #[Value.int .u64 0] c, rfl, Nat.le_refl _, heap_alloc_new w _, h1, by unfold maxLen; omega, hs, ?_⟩⟩
  rw [toList_madeCells_one]
  simp [List.take_replicate, Nat.min_eq_left h1]
theorem pad_co {p : Int} (a : Nat) (l : List Int) : pol p (List.replicate a 0 ++ l) = Ser.up a (pol p l) := Ser.ext_ fun k => by
  rw [pol_co, Ser.up_co]
  rcases Nat.lt_or_ge k a with h | h
  · rw [if_pos h]
    have : (List.replicate a (0 : Int) ++ l).getD k 0 = 0 := by simp [List.getD, List.getElem?_append, h]
    rw [this, Int.zero_emod]
  · rw [if_neg (by omega), pol_co]
    congr 1
    simp [List.getD, List.getElem?_append, show ¬ k < a by omega]
theorem set_last (xs : List Value) (x y : Value) : (xs ++ [x]).set xs.length y = xs ++ [y] := by simp

set_option maxHeartbeats 400000 in
theorem sOn_no (p m : Int) (v u : Value) (s c : List Int) (w : World) (h0 : 0 ≤ p) (h1 : p ≤ 18446744073709551615) (hv : Ints .u64 w v s) (hu : Ints .u64 w u c) (hs : U64s s) (hc : U64s c)
    (h : ruleB p c = false ∨ hasB p s = false ∨ m < 0 ∨ 512 < m) :
    Calls Try.prog 10 #[.int .u64 p, v, u, .int .i64 m] w (Ret (.tuple #[.slice none 0 0, .int .i64 1]) w) := by
  have c1 := sRight p u c w h0 h1 hu hc
  have c2 := has_any p v s w h0 h1 hv hs
  obtain ⟨R, hR⟩ : ∃ R, ruleB p c = R := ⟨_, rfl⟩
  obtain ⟨B, hB⟩ : ∃ B, hasB p s = B := ⟨_, rfl⟩
  rw [hR] at c1 h; rw [hB] at c2 h
  have C1 := hid c1; have C2 := hid c2
  clear c1 c2 hR hB hv hu hs hc
  cases R with
  | false =>
    clear h
    go_enter Try.func10, Try.ntmps10
    go_wp2_with (first | (go_at_call 12; refine C1.out.mono ?_; rintro _ _ ⟨rfl, rfl⟩) | (go_at_call 22; refine C2.out.mono ?_; rintro _ _ ⟨rfl, rfl⟩))
    go_ret2
    exact ⟨rfl, (by repeat (first | exact Ext.refl _ | assumption | refine Ext.drew ?_ | refine Ext.drewN ?_ _ | refine Ext.alloc ?_ _ | refine Ext.trans ?_ (by assumption)))⟩
  | true =>
    cases B with
    | false =>
      clear h
      go_enter Try.func10, Try.ntmps10
      go_wp2_with (first | (go_at_call 12; refine C1.out.mono ?_; rintro _ _ ⟨rfl, rfl⟩) | (go_at_call 22; refine C2.out.mono ?_; rintro _ _ ⟨rfl, rfl⟩))
      go_ret2
      exact ⟨rfl, (by repeat (first | exact Ext.refl _ | assumption | refine Ext.drew ?_ | refine Ext.drewN ?_ _ | refine Ext.alloc ?_ _ | refine Ext.trans ?_ (by assumption)))⟩
    | true =>
      by_cases hm : m < 0
      · clear h
        go_enter Try.func10, Try.ntmps10
        go_wp2_with (first | (go_at_call 12; refine C1.out.mono ?_; rintro _ _ ⟨rfl, rfl⟩) | (go_at_call 22; refine C2.out.mono ?_; rintro _ _ ⟨rfl, rfl⟩))
        go_ret2
        exact ⟨rfl, (by repeat (first | exact Ext.refl _ | assumption | refine Ext.drew ?_ | refine Ext.drewN ?_ _ | refine Ext.alloc ?_ _ | refine Ext.trans ?_ (by assumption)))⟩
      · have hm2 : 512 < m := by rcases h with h | h | h | h <;> first | cases h | omega
        clear h
        go_enter Try.func10, Try.ntmps10
        go_wp2_with (first | (go_at_call 12; refine C1.out.mono ?_; rintro _ _ ⟨rfl, rfl⟩) | (go_at_call 22; refine C2.out.mono ?_; rintro _ _ ⟨rfl, rfl⟩))
        go_ret2
        exact ⟨rfl, (by repeat (first | exact Ext.refl _ | assumption | refine Ext.drew ?_ | refine Ext.drewN ?_ _ | refine Ext.alloc ?_ _ | refine Ext.trans ?_ (by assumption)))⟩

/-- a row that is gone on with, in memory of its own -/
def RetOn (l : List Int) (w : World) (e : Ending) (w' : World) : Prop := ∃ v, e = .returned (.tuple #[v, .int .i64 0]) ∧ Ints .u64 w' v l ∧ Ext w w'

set_option maxRecDepth 100000 in
set_option maxHeartbeats 2000000 in
theorem sOn_yes (p : Int) (m : Nat) (v u : Value) (s c : List Int) (w : World) (hv : Ints .u64 w v s) (hu : Ints .u64 w u c) (hR : ruleB p c = true) (hs : Rng p s) (hc : U64s c) (hm : m ≤ 512) (hl : s.length ≤ 1000000) :
    Calls Try.prog 10 #[.int .u64 p, v, u, .int .i64 m] w (RetOn (onL p c s m) w) := by
  obtain ⟨r1, r2, r3, r4, r5⟩ := (ruleB_iff hc).1 hR
  have hp2 := rightB_true r1
  obtain ⟨i0, hi, hz0, hz1, hz2⟩ := info_parts info_u64p
  have c1 := sRight p u c w (by omega) (by omega) hu hc
  have c2 := has_any p v s w (by omega) (by omega) hv (hs.u64 hp2.2)
  rw [hR] at c1; rw [hs.has r1] at c2
  have C1 := hid c1; have C2 := hid c2
  have C3 := hid (turned_any u c w hu (by omega) (by omega))
  have Hp := hid r1; have Hc := hid r2; have Hs := hid hs; have Hv := hid hv
  have Hc1 := hid (show (pol p c).co 0 = 1 by rw [r2.co]; exact r5)
  clear c1 c2 hR hs hc r1 r2 r5
  obtain ⟨a', cap', rfl, ku1, ku2, ku3⟩ := hu
  clear ku3
  obtain ⟨ah, hah⟩ : ∃ ah, c.length = ah + 1 := ⟨c.length - 1, by omega⟩
  have hla : (c.length : Int) - 1 = (ah : Int) := by omega
  obtain ⟨N, hN⟩ : ∃ N, ah + s.length + m = N := ⟨_, rfl⟩
  have hN1 : (ah : Int) + (s.length : Int) + (m : Int) = (N : Int) := by omega
  have hmk := make_ints (P := Try.prog) 23 22 .u64 8 (by omega) (by kernel_rfl) (by kernel_rfl) ah N (by omega) (by omega)
  have hNb : N ≤ 1001000 := by omega
  obtain ⟨a, cap, rfl, k1, k2, k3⟩ := hv
  have K3 := hid k3
  have Hah := hid hah
  have HN := hid hN
  clear k3 hah hN
  go_enter Try.func10, Try.ntmps10
  go_wp2_with (first | (go_at_call 12; refine C1.out.mono ?_; rintro _ _ ⟨rfl, rfl⟩) | (go_at_call 22; refine C2.out.mono ?_; rintro _ _ ⟨rfl, rfl⟩) | fail)
  refine C3.out.mono ?_
  rintro _ w1 ⟨g, gc, rfl, g1, g2, g3, g4, x1⟩
  have G4 := hid (g4.ints' List.length_reverse g1 g2)
  clear g4 g3
  have hmade := hid (own_made w1 22 ah N (by have := HN.out; omega) (by omega))
  have hvm := hid (fun (o : Obj) => (Hv.out.ext x1).alloc o)
  go_wp2_with (first | (at_builtin; refine wpList_append_ints rfl _ _ 23 rfl w1.heap.size 22 i0 (.int .u64 0) 8 Try.underlying23 hi hz0 hz1 hz2 rfl _ ah _ rfl hmade.out _ s rfl (hvm.out _) (by simp only [maxLen]; omega) (by omega) (by simp) ?_; intro v3 w3 hown3 hgrow3) | fail)
  obtain ⟨hx3, hrow3⟩ : Ext w1 w3 ∧ w3.ownsRow w1.heap.size 22 1 v3 (ah + s.length) ((List.replicate ah (0 : Int) ++ s).map (Value.int .u64)) :=
    ⟨((Ext.refl w1).alloc _).grown hgrow3 (fun k e => by cases e; exact Nat.le_refl _), by rw [List.map_append]; exact hown3⟩
  have Hrow3 := hid hrow3
  clear hown3 hgrow3 hrow3
  go_wp2_with fail
  go_loopw [47, 12] (fun i rv wr => ∃ j : Nat, i = .int .i64 j ∧ j ≤ m ∧ Hid (wr.ownsRow w1.heap.size 22 1 rv (ah + s.length + j) ((List.replicate ah (0 : Int) ++ onL p c s j).map (Value.int .u64))) ∧ Ext w1 wr) (fun i _ _ => m - (intOf i).toNat)
  case atStart => exact ⟨0, rfl, Nat.zero_le _, Hrow3, hx3⟩
  case round =>
    obtain ⟨j, rfl, hj, hown, hxr⟩ := hrel
    clear Hrow3 hx3
    by_cases hlt : j < m
    · obtain ⟨l, hl2⟩ : ∃ l, onL p c s j = l := ⟨_, rfl⟩
      have hll : l.length = s.length + j := by rw [← hl2, onL_len]
      have hlr : Rng p l := hl2 ▸ onL_rng hp2.1 Hs.out j
      obtain ⟨L, hL⟩ : ∃ L, List.replicate ah (0 : Int) ++ l = L := ⟨_, rfl⟩
      obtain ⟨K, hK⟩ : ∃ K, ah + s.length + j = K := ⟨_, rfl⟩
      have hLl : L.length = K := by rw [← hL, List.length_append, List.length_replicate, hll]; omega
      rw [hl2, hL, hK] at hown
      obtain ⟨x, ex⟩ : ∃ x, (pol p c * pol p l).co l.length = x := ⟨_, rfl⟩
      have hxr2 := Ser.co_range (pol p c * pol p l) hp2.1 l.length
      rw [ex] at hxr2
      obtain ⟨y, ey, y0, y1⟩ := name_mod (p := p) (0 - x) hp2.1
      have hrow : Rng p (L ++ [0]) := by rw [← hL]; exact (Rng.append (fun t ht => by rw [List.mem_replicate] at ht; omega) hlr).append (Rng.one (by omega) (by omega))
      have hval : (pol p c * pol p (L ++ [0])).co (K + 1 - 1) = x := by
        rw [← hL, List.append_assoc, pad_co, Ser.mul_comm, Ser.up_mul, Ser.up_co, if_neg (by omega), show K + 1 - 1 - ah = l.length by omega, Ser.mul_comm, snoc_co 0 Hc1.out, Int.zero_add, Ser.ok, ex]
      have hnext := hid (show (L.map (Value.int .u64) ++ [Value.int .u64 0]).set K (Value.int .u64 y) = (List.replicate ah (0 : Int) ++ onL p c s (j + 1)).map (Value.int .u64) by
        have e1 : (L.map (Value.int .u64)).length = K := by rw [List.length_map, hLl]
        have e2 : onL p c s (j + 1) = l ++ [y] := by rw [onL, hl2, ex, ey]
        rw [← e1, set_last, e2, ← List.append_assoc, hL, List.map_append]; rfl)
      have Hrow := hid hrow; have Hval := hid hval; have Ey := hid ey
      have happ := hid (show (L.map (Value.int .u64)) ++ [Value.int .u64 0] = (L ++ [0]).map (Value.int .u64) by simp)
      have hl0 := hid (show (L ++ [0]).length = K + 1 by rw [List.length_append, hLl]; rfl)
      have hcK := hid (show c.length ≤ (L ++ [0]).length by rw [hl0.out, Hah.out]; omega)
      have hKb : K ≤ 1001000 := by have := HN.out; omega
      have HK := hid hK
      clear hl2 hll hlr hL hLl ex hrow hval ey hK
      go_wp2_with (first | (at_builtin; refine wpList_append_own _ rfl _ _ 23 rfl w1.heap.size 22 i0 (.int .u64 0) 1 8 Try.underlying23 hi hz0 hz1 hz2 rfl (by decide) _ _ _ rfl (hown.out.alloc _) ⟨wr.heap.size, 0, none⟩ 1 1 [.int .u64 0] rfl rfl (cells_new _ _ _ (by simp)) (by simp [Value.oneCell']) (by simp only [maxLen]; omega) (by omega) (by have := hxr.size; simp; omega) ?_; intro v4 w4 hown4 hgrow4 _; rw [happ.out] at hown4; have hy4 : Ext w1 w4 := (hxr.alloc _).grown hgrow4 (fun t e => (hown.out.lt t e).1); have Hown4 := hid hown4; obtain ⟨a4, c4, rfl, c42, c43, c44, c45⟩ := WRow.of_owns hown4; obtain ⟨g4, rfl, hg4, hw4⟩ := c45 (by omega); have Hw4 := hid hw4; clear c45 hown4 hgrow4 hw4) | fail)
      refine (breach_any p _ _ (L ++ [0]) c w4 Hp.out (Hw4.out.ints' hl0.out c42 c43) (G4.out.ext hy4) Hrow.out Hc.out (by omega) hcK.out).mono ?_
      rw [hl0.out, Hval.out]
      rintro _ w5 ⟨rfl, x5⟩
      go_wp2_with fail
      refine (sub_as p 0 x y w5 Hp.out (by omega) (by omega) hxr2.1 hxr2.2 Ey.out).mono ?_
      rintro _ w6 ⟨rfl, x6⟩
      have y6 : Ext w4 w6 := x5.ext.trans x6
      have hw6 := (Hw4.out.ext y6).2 K (by rw [hl0.out]; omega)
      obtain ⟨cc, cf⟩ := hw6
      rw [Nat.zero_add] at cc cf
      go_wp2_with fail
      go_roundw
      case rel =>
        have ho := (ownsRow_ext Hown4.out y6).stored K (.int .u64 y)
        rw [← happ.out, hnext.out] at ho
        refine ⟨j + 1, by go_num, by omega, hid ?_, (hy4.trans y6).setCell (p := ⟨g4, K, none⟩) hg4 _⟩
        rw [show ah + s.length + (j + 1) = K + 1 by rw [← HK.out]; omega]
        exact ho.1
      case measure => simp [intOf]; omega
    · obtain rfl : j = m := by omega
      obtain ⟨a4, c4, rfl, c42, c43, c44, c45⟩ := WRow.of_owns hown.out
      obtain ⟨L, hL⟩ : ∃ L, List.replicate ah (0 : Int) ++ onL p c s j = L := ⟨_, rfl⟩
      have hd := hid (show L.drop ah = onL p c s j by rw [← hL]; simp)
      have hll : L.length = ah + s.length + j := by rw [← hL, List.length_append, List.length_replicate, onL_len]; omega
      rw [hL] at c45
      have hI : Ints .u64 wr (.slice a4 (ah + s.length + j) c4) L := by
        rcases Nat.eq_zero_or_pos (ah + s.length + j) with h0 | h0
        · exact ⟨a4, c4, by rw [hll], by omega, c43, fun h => by omega⟩
        · obtain ⟨g4, rfl, hg4, hw4⟩ := c45 h0
          exact hw4.ints' hll c42 c43
      have hI2 := hid (hd.out ▸ hI.dropq ah (by omega))
      clear c45 hL c44 hI hown
      go_wp2_with fail
      all_goals
        go_ret2
        have hI3 := hI2.out
        refine ⟨_, rfl, ?_, x1.trans hxr⟩
        first
          | (rw [if_neg (by assumption)] at hI3; exact hI3)
          | (rw [if_pos (by assumption), show c4 - ah = 0 by omega] at hI3; exact hI3)
end Go.Proofs.Ytbpbagejblbacaa
