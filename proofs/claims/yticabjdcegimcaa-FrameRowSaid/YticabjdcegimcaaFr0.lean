/- Frames as values; slices of bytes: what they read as, appends, strings. -/
import Derived.Test.YticabjdcegimcaaFrN
import Derived.Test.YticabjdcegimcaaBoxes
import Derived.Test.YticabjdcegimcaaSame
import Derived.Laws.BytesArg
import Derived.Lib.Bytes
namespace Go.Proofs.Yticabjdcegimcaa
open Go.RowKit Go.Maps

theorem info_u8p : (Try.prog.info? 5).map (fun i => (i.zero, i.size, i.bytes)) = some (some (.int .u8 0), 1, 1) := by kernel_rfl
/-- a row that a call made reads as its numbers -/
theorem own_nums {w : World} {base n : Nat} {e : TypeId} {k : IntKind} {v : Value} {xs : List Int} (h : w.ownsRow base e 1 v n (xs.map (Value.int k))) : ∃ a cap, v = .slice a n cap ∧ xs.length = n ∧ Ints k w v xs := by
  have hl : xs.length = n := by have := h.1; simpa using this
  have h0 := h
  obtain ⟨_, ⟨rfl, h1⟩ | ⟨g, cap, cur, rfl, hg, hb, hc1, hc2, hs, ht⟩⟩ := h
  · obtain rfl : n = 0 := by simpa using h1
    obtain rfl : xs = [] := List.eq_nil_of_length_eq_zero hl
    exact ⟨none, 0, rfl, rfl, Ints.nil⟩
  · refine ⟨_, cap, rfl, hl, ⟨some ⟨g, 0, none⟩, cap, by rw [hl], by omega, by unfold maxLen at hc2; omega, fun _ => ⟨g, 0, rfl, Blk.lt (t := e) (cs := cur) hb, fun j hj => ?_⟩⟩⟩
    rw [Nat.zero_add, h0.cellAt j (by omega)]
    simp [hj, List.getD]
theorem own_read {w : World} {base n : Nat} {e : TypeId} {k : IntKind} {v : Value} {xs : List Int} (h : w.ownsRow base e 1 v n (xs.map (Value.int k))) : Ints k w v xs := by
  obtain ⟨_, _, _, _, h⟩ := own_nums h
  exact h
theorem Ints.shape {k : IntKind} {w : World} {v : Value} {xs : List Int} (h : Ints k w v xs) : ∃ a cap, v = .slice a xs.length cap ∧ xs.length ≤ cap ∧ cap ≤ 9223372036854775807 := by
  obtain ⟨a, cap, h1, h2, h3, -⟩ := h
  exact ⟨a, cap, h1, h2, h3⟩
/-- the k-th number, in whatever world behind -/
theorem Ints.cell {k : IntKind} {w : World} {a : Option Addr} {n cap : Nat} {xs : List Int} (h : Ints k w (.slice a n cap) xs) (hn : 0 < xs.length) : ∃ b off, a = some ⟨b, off, none⟩ ∧ n = xs.length ∧ b < w.heap.size ∧ ∀ j, j < xs.length → ∀ W, Ext w W → W.cell? ⟨b, off + j, none⟩ = some (.int k (xs.getD j 0)) := by
  obtain ⟨a', cap', e, h1, h2, h3⟩ := h
  injection e with e1 e2 e3
  subst e1
  obtain ⟨b, off, rfl, hb, hc⟩ := h3 hn
  exact ⟨b, off, rfl, e2, hb, fun j hj W hW => (hW.cells _ _ hb).trans (hc j hj)⟩
theorem Ints.news {k : IntKind} {w : World} {ad : Addr} {n cap : Nat} {ss : List Int} (h : Ints k w (.slice (some ad) n cap) ss) : n = ss.length ∧ ∀ j u, (ss.map (Value.int k))[j]? = some u → w.cell? (ad.add j) = some u := by
  obtain ⟨a', cap', e, h1, h2, h3⟩ := h
  injection e with e1 e2 e3
  refine ⟨e2, fun j u hj => ?_⟩
  have hjl : j < ss.length := by
    rcases Nat.lt_or_ge j ss.length with h | h
    · exact h
    · rw [List.getElem?_eq_none (by simpa using h)] at hj; cases hj
  obtain ⟨b, off, e, hb, hcell⟩ := h3 (by omega)
  rw [← e1] at e
  injection e with e; subst e
  rw [show ((⟨b, off, none⟩ : Addr).add j) = ⟨b, off + j, none⟩ from Go.WideShapes.add_plain _ _ _, hcell j hjl]
  rw [List.getElem?_map, List.getElem?_eq_getElem hjl] at hj
  simp only [Option.map_some, Option.some.injEq] at hj
  rw [← hj]
  simp [List.getD, List.getElem?_eq_getElem hjl]
section
variable {P : Program}
theorem wpList_append_k {ops : Array Oper} {rest : List Oper} {o : Oper} {a : Act} {Q : Exit → Act → World → Prop} {w : World} (k : IntKind) (hgd : o.guard = none) (s x : Operand) (t : TypeId)
    (ho : o.op = .call { callee := .builtin .append, args := #[s, x], argTypes := #[t, t] }) (base : Nat) (e : TypeId) (i : TypeInfo) (z : Value) (bytes : Nat) (ht : P.underlying t = some (.slice e)) (hi : P.info? e = some i)
    (hz : i.zero = some z) (hsize : i.size = 1) (hby : i.bytes = bytes) (hzs : z.cells.size = 1)
    (v : Value) (n : Nat) (xs : List Value) (hs : a.eval s = v) (hown : w.ownsRow base e 1 v n xs) (u : Value) (ss : List Int) (hx : a.eval x = u) (hI : Ints k w u ss)
    (h63 : n + ss.length ≤ maxLen) (hbytes : (n + ss.length) * bytes ≤ 140737488355328) (hbase : base ≤ w.heap.size)
    (h : ∀ v' w', w'.ownsRow base e 1 v' (n + ss.length) (xs ++ ss.map (Value.int k)) → w.grownBy w' v.ownBlock → wpList P ops Q rest (a.put o.dst v') w') : wpList P ops Q (o :: rest) a w := by
  have hI2 := hI
  obtain ⟨ad, cap, rfl, k1, k2, k3⟩ := hI
  cases ad with
  | none =>
    have h0 : ss.length = 0 := by
      rcases Nat.eq_zero_or_pos ss.length with h | h
      · exact h
      · obtain ⟨b, off, e, _⟩ := k3 h; cases e
    obtain rfl : ss = [] := List.eq_nil_of_length_eq_zero h0
    refine wpList_append_nil hgd s x t ho base e i 1 cap ht hi v n xs hs hown hx ?_
    have := h v w (by simpa using hown) (grown_refl _ _)
    exact this
  | some ad =>
    refine wpList_append_own w hgd s x t ho base e i z 1 bytes ht hi hz hsize hby hzs (by omega) v n xs hs hown ad ss.length cap (ss.map (Value.int k)) hx (by simp) hI2.news.2 (fun y hy => ?_) h63 hbytes hbase fun v' w' h2 h3 _ => h v' w' h2 h3
    obtain ⟨q, _, rfl⟩ := List.mem_map.1 hy
    rfl
end
/-- what an own row's append leaves of what stands below it -/
theorem below_grown {w w' : World} {base n : Nat} {e : TypeId} {v : Value} {xs : List Value} (h : w.ownsRow base e 1 v n xs) (hb : base ≤ w.heap.size) (hg : w.grownBy w' v.ownBlock) : Below base w w' :=
  ⟨hg.os, hg.tape, hg.output, hg.size, fun k hk => hg.block k (by omega) (fun e => by have := (h.lt k e.symm).1; omega)⟩

/-! ### Strings -/
theorem str_bytes {w : World} {v : Value} {xs : List Int} (hv : Ints .u8 w v xs) : (convert 26 9 v).run Try.prog w = .ok (.string (strOfNums xs)) w := by
  obtain ⟨a, cap, rfl, h1, h2, h3⟩ := hv
  rcases Nat.eq_zero_or_pos xs.length with h0 | h0
  · obtain rfl : xs = [] := List.eq_nil_of_length_eq_zero h0
    cases a with
    | none => exact run_convert_bytes_nil w 26 5 Try.underlying26 Try.underlying5 _ _ _ Try.underlying9
    | some ad =>
      have := run_bytesToString (P := Try.prog) w ad 0 cap [] (run_loadCells_list (P := Try.prog) w ad [] (fun j v hj => by simp at hj))
      rw [run_convert_bytes_string w 26 9 5 _ _ _ Try.underlying26 Try.underlying5 Try.underlying9]
      exact this
  · obtain ⟨b, off, rfl, hb, hc⟩ := h3 h0
    exact run_convert_bytes_arg w 26 5 Try.underlying26 Try.underlying5 b off xs.length cap xs rfl hc _ Try.underlying9
theorem u8_nat {x y : Int} (hx : 0 ≤ x ∧ x < 256) (hy : 0 ≤ y ∧ y < 256) (h : UInt8.ofNat x.toNat = UInt8.ofNat y.toNat) : x = y := by
  have := congrArg UInt8.toNat h
  simp at this
  omega
theorem str_inj : ∀ {xs ys : List Int}, Byt xs → Byt ys → strOfNums xs = strOfNums ys → xs = ys := by
  intro xs ys hx hy h
  have h2 : xs.map (fun n => UInt8.ofNat n.toNat) = ys.map (fun n => UInt8.ofNat n.toNat) := congrArg (fun s => s.data.toList) h
  clear h
  induction xs generalizing ys with
  | nil => cases ys with
    | nil => rfl
    | cons y ys => simp at h2
  | cons x xs ih => cases ys with
    | nil => simp at h2
    | cons y ys =>
      simp only [List.map_cons, List.cons.injEq] at h2
      rw [u8_nat (hx x (by simp)) (hy y (by simp)) h2.1, ih (fun z hz => hx z (by simp [hz])) (fun z hz => hy z (by simp [hz])) h2.2]
theorem str_eq {xs ys : List Int} (hx : Byt xs) (hy : Byt ys) : ((strOfNums xs).toList == (strOfNums ys).toList) = decide (xs = ys) := by
  by_cases h : xs = ys
  · subst h; simp
  · rw [decide_eq_false h]
    refine beq_eq_false_iff_ne.2 fun e => h ?_
    rw [Lib.strOfNums_toList, Lib.strOfNums_toList] at e
    refine str_inj hx hy ?_
    unfold strOfNums
    unfold Lib.bytesOf at e
    rw [e]

/-! ### Frames -/
/-- a frame, as a value -/
def frmV (f : Frm) (v : Value) : Value := .agg #[.int .i64 f.kind, .int .i64 f.round, .int .u32 f.num, v]
instance (f g : Frm) : Decidable (f = g) := decidable_of_iff (f.kind = g.kind ∧ f.round = g.round ∧ f.num = g.num ∧ f.body = g.body) (by cases f; cases g; simp)
/-- the numbers of a frame lie there -/
def FrI (w : World) (v : Value) (f : Frm) : Prop := Ints .u64 w v f.body
theorem mayF_iff {f : Frm} : mayF f = true ↔ 0 < f.kind ∧ f.kind < 5 ∧ 0 ≤ f.round ∧ f.round < 256 ∧ f.body.length ≤ 9000 := by unfold mayF; rw [decide_eq_true_eq]
theorem mayF_no {f : Frm} (h : ¬ (0 < f.kind ∧ f.kind < 5 ∧ 0 ≤ f.round ∧ f.round < 256 ∧ f.body.length ≤ 9000)) : mayF f = false := by unfold mayF; rw [decide_eq_false_iff_not]; exact h

set_option maxHeartbeats 1000000 in
theorem frMay (f : Frm) (v : Value) (w : World) (hv : Ints .u64 w v f.body) : Calls Try.prog 13 #[frmV f v] w (Ret (.bool (mayF f)) w) := by
  obtain ⟨a, cap, rfl, k1, k2⟩ := hv.shape
  clear hv
  unfold frmV mayF
  obtain ⟨k, r, n, l⟩ := f
  show Calls _ _ #[.agg #[.int .i64 k, .int .i64 r, .int .u32 n, .slice a l.length cap]] w (Ret (.bool (decide (0 < k ∧ k < 5 ∧ 0 ≤ r ∧ r < 256 ∧ l.length ≤ 9000))) w)
  have k1 : l.length ≤ cap := k1
  by_cases g1 : 1 ≤ k
  · by_cases g2 : k ≤ 4
    · by_cases g3 : 0 ≤ r
      · by_cases g4 : r ≤ 255
        all_goals
          go_enter Try.func13, Try.ntmps13
          go_wp2_with fail
          go_ret
          exact ⟨ret_bool (by rw [Bool.eq_iff_iff]; simp; omega), (by repeat (first | exact Ext.refl _ | assumption | refine Ext.drew ?_ | refine Ext.drewN ?_ _ | refine Ext.alloc ?_ _ | refine Ext.trans ?_ (by assumption)))⟩
      · go_enter Try.func13, Try.ntmps13
        go_wp2_with fail
        go_ret
        exact ⟨ret_bool (by rw [Bool.eq_iff_iff]; simp; omega), (by repeat (first | exact Ext.refl _ | assumption | refine Ext.drew ?_ | refine Ext.drewN ?_ _ | refine Ext.alloc ?_ _ | refine Ext.trans ?_ (by assumption)))⟩
    · go_enter Try.func13, Try.ntmps13
      go_wp2_with fail
      go_ret
      exact ⟨ret_bool (by rw [Bool.eq_iff_iff]; simp; omega), (by repeat (first | exact Ext.refl _ | assumption | refine Ext.drew ?_ | refine Ext.drewN ?_ _ | refine Ext.alloc ?_ _ | refine Ext.trans ?_ (by assumption)))⟩
  · go_enter Try.func13, Try.ntmps13
    go_wp2_with fail
    go_ret
    exact ⟨ret_bool (by rw [Bool.eq_iff_iff]; simp; omega), (by repeat (first | exact Ext.refl _ | assumption | refine Ext.drew ?_ | refine Ext.drewN ?_ _ | refine Ext.alloc ?_ _ | refine Ext.trans ?_ (by assumption)))⟩
set_option maxHeartbeats 1000000 in
theorem r11May (f : Frm) (v : Value) (w : World) (hv : Ints .u64 w v f.body) : Calls Try.prog 14 #[frmV f v] w (Ret (.bool (mayF f)) w) := by
  obtain ⟨a, cap, rfl, k1, k2⟩ := hv.shape
  clear hv
  unfold frmV mayF
  obtain ⟨k, r, n, l⟩ := f
  show Calls _ _ #[.agg #[.int .i64 k, .int .i64 r, .int .u32 n, .slice a l.length cap]] w (Ret (.bool (decide (0 < k ∧ k < 5 ∧ 0 ≤ r ∧ r < 256 ∧ l.length ≤ 9000))) w)
  have k1 : l.length ≤ cap := k1
  by_cases g1 : 0 < k
  · by_cases g2 : k < 5
    · by_cases g3 : 0 ≤ r
      · by_cases g4 : r < 256
        all_goals
          go_enter Try.func14, Try.ntmps14
          go_wp2_with fail
          go_ret
          exact ⟨ret_bool (by rw [Bool.eq_iff_iff]; simp; omega), (by repeat (first | exact Ext.refl _ | assumption | refine Ext.drew ?_ | refine Ext.drewN ?_ _ | refine Ext.alloc ?_ _ | refine Ext.trans ?_ (by assumption)))⟩
      · go_enter Try.func14, Try.ntmps14
        go_wp2_with fail
        go_ret
        exact ⟨ret_bool (by rw [Bool.eq_iff_iff]; simp; omega), (by repeat (first | exact Ext.refl _ | assumption | refine Ext.drew ?_ | refine Ext.drewN ?_ _ | refine Ext.alloc ?_ _ | refine Ext.trans ?_ (by assumption)))⟩
    · go_enter Try.func14, Try.ntmps14
      go_wp2_with fail
      go_ret
      exact ⟨ret_bool (by rw [Bool.eq_iff_iff]; simp; omega), (by repeat (first | exact Ext.refl _ | assumption | refine Ext.drew ?_ | refine Ext.drewN ?_ _ | refine Ext.alloc ?_ _ | refine Ext.trans ?_ (by assumption)))⟩
  · go_enter Try.func14, Try.ntmps14
    go_wp2_with fail
    go_ret
    exact ⟨ret_bool (by rw [Bool.eq_iff_iff]; simp; omega), (by repeat (first | exact Ext.refl _ | assumption | refine Ext.drew ?_ | refine Ext.drewN ?_ _ | refine Ext.alloc ?_ _ | refine Ext.trans ?_ (by assumption)))⟩
theorem frWhole (n : Nat) (hn : n ≤ 65535) (w : World) : Calls Try.prog 18 #[.int .i64 n] w fun e w' => e = .returned (.int .i64 ((12 + 8 * n : Nat) : Int)) ∧ w = w' := by
  go_enter Try.func18, Try.ntmps18
  go_wp2_with fail
  go_ret
  exact ⟨ret_int (by simp; omega), rfl⟩
set_option maxHeartbeats 1000000 in
theorem r11Same (f g : Frm) (v u : Value) (w : World) (hv : Ints .u64 w v f.body) (hu : Ints .u64 w u g.body) : Calls Try.prog 17 #[frmV f v, frmV g u] w (Ret (.bool (decide (f = g))) w) := by
  have C := hid fun (W : World) (hW : Ext w W) => same_any v u f.body g.body W (hv.ext hW) (hu.ext hW)
  obtain ⟨a, cap, rfl, k1, k2⟩ := hv.shape
  obtain ⟨a', cap', rfl, l1, l2⟩ := hu.shape
  clear hv hu
  unfold frmV
  obtain ⟨k, r, n, l⟩ := f
  obtain ⟨k', r', n', l'⟩ := g
  obtain ⟨D, hD⟩ : ∃ D, decide (l = l') = D := ⟨_, rfl⟩
  have hfg : decide ((⟨k, r, n, l⟩ : Frm) = ⟨k', r', n', l'⟩) = (decide (k = k') && (decide (r = r') && (decide (n = n') && D))) := by
    rw [← hD, Bool.eq_iff_iff]
    simp
  rw [hfg]
  have C : Hid (∀ (W : World), Ext w W → Calls Try.prog 25 #[.slice a l.length cap, .slice a' l'.length cap'] W (Ret (.bool D) W)) := hid (by
    have := C.out
    rw [← hD]
    exact this)
  show Calls _ _ #[.agg #[.int .i64 k, .int .i64 r, .int .u32 n, .slice a l.length cap], .agg #[.int .i64 k', .int .i64 r', .int .u32 n', .slice a' l'.length cap']] w _
  have hb2 := hid (Blk.new w 25 #[.int .i64 k, .int .i64 r, .int .u32 n, .slice a l.length cap])
  clear hD hfg
  have z1 := (Ext.refl (w.alloc (.cells #[.int .i64 k, .int .i64 r, .int .u32 n, .slice a l.length cap] 25))).alloc (.cells #[.int .i64 k', .int .i64 r', .int .u32 n', .slice a' l'.length cap'] 25)
  have q0 := (hb2.out.ext z1).cell 0
  have q1 := (hb2.out.ext z1).cell 1
  have q2 := (hb2.out.ext z1).cell 2
  have q3 := (hb2.out.ext z1).cell 3
  obtain ⟨b1, eb1⟩ : ∃ b1, decide (k = k') = b1 := ⟨_, rfl⟩
  obtain ⟨b2, eb2⟩ : ∃ b2, decide (r = r') = b2 := ⟨_, rfl⟩
  obtain ⟨b3, eb3⟩ : ∃ b3, decide (n = n') = b3 := ⟨_, rfl⟩
  have e1 : (k == k') = b1 := by rw [← eb1, Bool.eq_iff_iff]; simp
  have e2 : (r == r') = b2 := by rw [← eb2, Bool.eq_iff_iff]; simp
  have e3 : (n == n') = b3 := by rw [← eb3, Bool.eq_iff_iff]; simp
  rw [eb1, eb2, eb3]
  clear eb1 eb2 eb3
  cases b1
  · go_enter Try.func17, Try.ntmps17
    go_wp2_with fail
    go_ret
    exact ⟨rfl, (by repeat (first | exact Ext.refl _ | assumption | refine Ext.drew ?_ | refine Ext.drewN ?_ _ | refine Ext.alloc ?_ _ | refine Ext.trans ?_ (by assumption)))⟩
  cases b2
  · go_enter Try.func17, Try.ntmps17
    go_wp2_with fail
    go_ret
    exact ⟨rfl, (by repeat (first | exact Ext.refl _ | assumption | refine Ext.drew ?_ | refine Ext.drewN ?_ _ | refine Ext.alloc ?_ _ | refine Ext.trans ?_ (by assumption)))⟩
  cases b3
  · go_enter Try.func17, Try.ntmps17
    go_wp2_with fail
    go_ret
    exact ⟨rfl, (by repeat (first | exact Ext.refl _ | assumption | refine Ext.drew ?_ | refine Ext.drewN ?_ _ | refine Ext.alloc ?_ _ | refine Ext.trans ?_ (by assumption)))⟩
  go_enter Try.func17, Try.ntmps17
  go_wp2_with fail
  refine (C.out _ (by repeat (first | exact Ext.refl _ | assumption | refine Ext.drew ?_ | refine Ext.drewN ?_ _ | refine Ext.alloc ?_ _ | refine Ext.trans ?_ (by assumption)))).mono ?_
  rintro _ w1 ⟨rfl, x1⟩
  go_wp2_with fail
  go_ret
  exact ⟨rfl, Ext.trans (by repeat (first | exact Ext.refl _ | assumption | refine Ext.drew ?_ | refine Ext.drewN ?_ _ | refine Ext.alloc ?_ _ | refine Ext.trans ?_ (by assumption))) x1⟩
end Go.Proofs.Yticabjdcegimcaa
