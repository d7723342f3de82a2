/- Boxes: what a store leaves as it was; rows beside them; results that are a number, a box, a number. -/
import Derived.Test.YthomeenmcajmdaaDoorOwn
import Derived.Laws.ResultCell
namespace Go.Proofs.YthomeenmcajmdaaDoor
open Go.RowKit Go.Maps

theorem alloc_size (w : World) (o : Obj) : (w.alloc o).heap.size = w.heap.size + 1 := by simp
theorem setCell_grown (w : World) (p : Addr) (u : Value) : w.grownBy (w.setCell p u) (some p.block) :=
  ⟨rfl, rfl, rfl, by simp [World.setCell], fun k _ hk => heap_setCell_other w p k u (fun e => hk (by rw [e]))⟩
theorem Blk.grown {w w' : World} {g : Nat} {t : TypeId} {cs : Array Value} {row : Option Nat} (h : Blk w g t cs) (hg : w.grownBy w' row) (hr : row ≠ some g) : Blk w' g t cs :=
  (hg.block g h.lt (fun e => hr e.symm)).trans h
theorem own_set {w : World} {base g n : Nat} {v : Value} {xs : List Value} {ty : TypeId} {cs : Array Value} (h : w.ownsRow base 22 1 v n xs) (hB : Blk w g ty cs) (hty : 22 ≠ ty) (i : Nat) (u : Value) : (w.setCell ⟨g, i, none⟩ u).ownsRow base 22 1 v n xs :=
  h.kept (setCell_grown _ _ _) (ownsRow_blk h hB hty)
theorem own_ints {w : World} {base n : Nat} {v : Value} {xs : List Int} (h : w.ownsRow base 22 1 v n (xs.map (Value.int .u64))) : Ints .u64 w v xs := by
  obtain ⟨a, c, rfl, h1, h2, h3, h4⟩ := WRow.of_owns h
  rcases Nat.eq_zero_or_pos n with h0 | h0
  · exact ⟨a, c, by rw [h3], by omega, h2, fun h => by omega⟩
  · obtain ⟨g4, rfl, hg4, hw4⟩ := h4 h0
    exact hw4.ints' h3 h1 h2
theorem Blk.at2 {w : World} {g : Nat} {t : TypeId} {a b : Value} (h : Blk w g t #[a, b]) : w.cell? ⟨g, 0, none⟩ = some a ∧ w.cell? ⟨g, 1, none⟩ = some b := ⟨h.cell 0, h.cell 1⟩
theorem Blk.at4 {w : World} {g : Nat} {t : TypeId} {a b c d : Value} (h : Blk w g t #[a, b, c, d]) : w.cell? ⟨g, 0, none⟩ = some a ∧ w.cell? ⟨g, 1, none⟩ = some b ∧ w.cell? ⟨g, 2, none⟩ = some c ∧ w.cell? ⟨g, 3, none⟩ = some d :=
  ⟨h.cell 0, h.cell 1, h.cell 2, h.cell 3⟩
theorem Blk.two {w : World} {g g' : Nat} {t : TypeId} {cs : Array Value} (h : Blk w g t cs) (i : Nat) (u : Value) (hne : g ≠ g') : Blk (w.setCell ⟨g', i, none⟩ u) g t cs :=
  h.grown (setCell_grown _ _ _) (fun e => hne (by injection e with e; exact e.symm))
theorem Blk.put2 {w : World} {g : Nat} {t : TypeId} {a b : Value} (h : Blk w g t #[a, b]) (c d : Value) : Blk ((w.setCell ⟨g, 0, none⟩ c).setCell ⟨g, 1, none⟩ d) g t #[c, d] := by
  have := (h.set_ 0 c).set_ 1 d
  simpa using this
/-- a natural number that stands in a cell -/
def cellNat (w : World) (g i : Nat) : Nat := match w.cell? ⟨g, i, none⟩ with | some (.int _ z) => z.toNat | _ => 0
theorem cellNat_of {w : World} {g i : Nat} {k : IntKind} {z : Int} (h : w.cell? ⟨g, i, none⟩ = some (.int k z)) : cellNat w g i = z.toNat := by simp [cellNat, h]
theorem results_tmp_cell_tmp {P : Program} {fn : Func} {s p u : Tmp} {ty : TypeId} (h : fn.results = #[.tmp s, .cell p ty, .tmp u]) (tmps : Array Value) (w : World) (g : Nat) (t : TypeId) (cs : Array Value) (fr : Nat × Nat) (d : TypeDesc)
    (hp : tmps.getD p undef = .pointer (some ⟨g, 0, none⟩)) (hg : w.heap[g]? = some (.cells cs t fr))
    (hu : P.underlying ty = some d) (hd : (match d with | .struct _ | .array _ _ => true | _ => false) = true) (hi : (P.info? ty).map (·.size) = some cs.size) :
    (results fn tmps).run P w = .ok (.tuple #[tmps.getD s undef, .agg cs, tmps.getD u undef]) w := by
  have hp' : tmps[p]?.getD undef = .pointer (some ⟨g, 0, none⟩) := by simpa using hp
  simp [results, h, hp', asAddr, run_loadVar_row w g t ty cs fr d hg hu hd hi, Result.andThen]

/-! ### An append that is asked for (behind a guard) -/
section
variable {P : Program}
theorem run_append_ints (w : World) (base : Nat) (t ty e : TypeId) (i : TypeInfo) (z : Value) (bytes : Nat) (ht : P.underlying t = some (.slice e)) (hi : P.info? e = some i)
    (hz : i.zero = some z) (hsize : i.size = 1) (hby : i.bytes = bytes) (hzs : z.cells.size = 1)
    (v : Value) (n : Nat) (xs : List Value) (hown : w.ownsRow base e 1 v n xs) (u : Value) (ss : List Int) (hI : Ints .u64 w u ss)
    (h63 : n + ss.length ≤ maxLen) (hbytes : (n + ss.length) * bytes ≤ 140737488355328) (hbase : base ≤ w.heap.size) :
    ∃ v' w', (Builtin.append_ #[t, t] ty #[v, u]).run P w = .ok v' w' ∧ w'.ownsRow base e 1 v' (n + ss.length) (xs ++ ss.map (Value.int .u64)) ∧ w.grownBy w' v.ownBlock := by
  obtain ⟨ad, cap, rfl, k1, k2, k3⟩ := hI
  cases ad with
  | none =>
    have h0 : ss.length = 0 := by
      rcases Nat.eq_zero_or_pos ss.length with h | h
      · exact h
      · obtain ⟨b, off, e, _⟩ := k3 h; cases e
    obtain rfl : ss = [] := List.eq_nil_of_length_eq_zero h0
    exact ⟨v, w, append_nil (P := P) w base t ty e i 1 cap ht hi v n xs hown, by simpa using hown, grown_refl _ _⟩
  | some ad =>
    obtain ⟨v', w', r, r1, r2, _⟩ := run_append_own (P := P) w base t ty e i z 1 bytes ht hi hz hsize hby hzs (by omega) v n xs hown ad ss.length cap (ss.map (Value.int .u64)) (by simp) (fun j y hj => by
      have hjl : j < ss.length := by
        rcases Nat.lt_or_ge j ss.length with h | h
        · exact h
        · rw [List.getElem?_eq_none (by simpa using h)] at hj; cases hj
      obtain ⟨b, off, e, hb, hcell⟩ := k3 (by omega)
      injection e with e; subst e
      rw [show ((⟨b, off, none⟩ : Addr).add j) = ⟨b, off + j, none⟩ from Go.WideShapes.add_plain _ _ _, hcell j hjl]
      rw [List.getElem?_map, List.getElem?_eq_getElem hjl] at hj
      simp only [Option.map_some, Option.some.injEq] at hj
      rw [← hj]
      simp [List.getD, List.getElem?_eq_getElem hjl]) (fun y hy => by
      obtain ⟨q, _, rfl⟩ := List.mem_map.1 hy
      rfl) h63 hbytes hbase
    exact ⟨v', w', r, r1, r2⟩
theorem wpList_append_ints_w {ops : Array Oper} {rest : List Oper} {o : Oper} {a : Act} {Q : Exit → Act → World → Prop} {w : World} (hw : Region.wanted o (yielded ops a.tmps) = true) (s x : Operand) (t : TypeId)
    (ho : o.op = .call { callee := .builtin .append, args := #[s, x], argTypes := #[t, t] }) (base : Nat) (e : TypeId) (i : TypeInfo) (z : Value) (bytes : Nat) (ht : P.underlying t = some (.slice e)) (hi : P.info? e = some i)
    (hz : i.zero = some z) (hsize : i.size = 1) (hby : i.bytes = bytes) (hzs : z.cells.size = 1)
    (v : Value) (n : Nat) (xs : List Value) (hs : a.eval s = v) (hown : w.ownsRow base e 1 v n xs) (u : Value) (ss : List Int) (hx : a.eval x = u) (hI : Ints .u64 w u ss)
    (h63 : n + ss.length ≤ maxLen) (hbytes : (n + ss.length) * bytes ≤ 140737488355328) (hbase : base ≤ w.heap.size)
    (h : ∀ v' w', w'.ownsRow base e 1 v' (n + ss.length) (xs ++ ss.map (Value.int .u64)) → w.grownBy w' v.ownBlock → wpList P ops Q rest (a.put o.dst v') w') : wpList P ops Q (o :: rest) a w :=
  wpList_step fun K hK => by
    simp only [hw, if_true]
    obtain ⟨v', w', hr, h2, h3⟩ := run_append_ints (P := P) w base t o.type e i z bytes ht hi hz hsize hby hzs v n xs hown u ss hI h63 hbytes hbase
    unfold Oper.wp execOp
    simp only [ho, resolve, invoke, builtin, Sem.run_bind, Sem.run_pure, Result.andThen_ok, List.map_toArray, List.map_cons, List.map_nil, hs, hx, hr]
    exact hK _ _ (h v' w' h2 h3)
end
end Go.Proofs.YthomeenmcajmdaaDoor
