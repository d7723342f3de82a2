/- append(s, make([]T, k)...): as many noughts onto a row of the call's own. -/
import Derived.Test.YtijpeepdedfhoaaGreatBun07
import Derived.Test.YtijpeepdedfhoaaGreatStep
import Derived.Lib.AppendZeros
import Derived.Lib.AppendZerosOnto
namespace Go.Proofs.YtijpeepdedfhoaaGreat
open Go.RowKit Go.Maps

theorem zeroCells_one (z : Value) (n : Nat) : Builtin.zeroCells #[z] n = (List.replicate n z).toArray := by
  apply Array.ext'
  apply List.ext_getElem?
  intro j
  by_cases hj : j < n
  · simp [Builtin.zeroCells, hj, Nat.mod_one]
  · simp [Builtin.zeroCells, hj]
section
variable {P : Program} (w : World)
theorem run_append_zeros (base : Nat) (t tn ty e : TypeId) (i : TypeInfo) (kq kn : IntKind) (ht : P.underlying t = some (.slice e)) (htn : P.underlying tn = some (.int kn)) (hi : P.info? e = some i) (hz : i.zero = some (.int .u64 0)) (hsize : i.size = 1) (hby : i.bytes = 8)
    (v : Value) (n : Nat) (xs : List Value) (hown : w.ownsRow base e 1 v n xs) (k : Nat) (h63 : n + k ≤ 1000000) (hbase : base ≤ w.heap.size) :
    ∃ v' w', (Builtin.append_ #[t, tn] ty #[v, .int kq k]).run P w = .ok v' w' ∧ w'.ownsRow base e 1 v' (n + k) (xs ++ List.replicate k (.int .u64 0)) ∧ w.grownBy w' v.ownBlock ∧ (v'.ownBlock = v.ownBlock ∨ v'.ownBlock = some w.heap.size) := by
  have hw : IntKind.i64.wrap (k : Int) = k := by rw [IntKind.wrap_i64]; omega
  have hneg : ¬ ((k : Int) < 0) := by omega
  have hw0 : IntKind.i64.wrap 0 = 0 := by rw [IntKind.wrap_i64]; omega
  have hxl : xs.length = n := by have := hown.1; simpa using this
  have h48i : ¬ (281474976710656 < (k : Int) * 8) := by omega
  rcases hown.2 with ⟨rfl, rfl⟩ | ⟨g, cap, cur, rfl, hbg, hg, hnc, hcm, hcs, htake⟩
  · obtain rfl : xs = [] := List.eq_nil_of_length_eq_zero hxl
    rcases Nat.eq_zero_or_pos k with rfl | hk
    · refine ⟨.slice none 0 0, w, ?_, by simpa using World.ownsRow_nil w base e 1, grown_refl _ _, .inl rfl⟩
      simp [Builtin.append_, run_underlying ht, run_underlying htn, sizeOf, typeInfo, zeroValue, hi, hz, asInt, asIntOf, hw0, Builtin.lenOf]
    · have hr := Lib.run_append_nil_zeros w t tn ty e i (.int .u64 0) kq kn ht htn hi hz k hk (by omega) (by omega) (by rw [hby]; omega)
      have hge := grownCap_ge w k 0 e
      have hcm := grownCap_le_maxLen w k 0 e (by unfold maxLen; omega)
      refine ⟨_, _, hr, ⟨by simp, .inr ⟨w.heap.size, _, _, by rw [Nat.zero_add], hbase, heap_alloc_new w.drew _, by omega, hcm, ?_, ?_⟩⟩, ⟨rfl, rfl, rfl, by simp, fun q hq _ => (heap_alloc_old w.drew _ hq).trans rfl⟩, .inr rfl⟩
      · rw [Array.size_append, size_zeroCells, size_zeroCells]
        simp [Value.cells]
        omega
      · show ((Builtin.zeroCells #[Value.int .u64 0] k ++ _).toList.take _) = _
        rw [zeroCells_one, Array.toList_append]
        simp
  · by_cases hroom : n + k ≤ cap
    · have hfit : n * 1 + 0 + (List.replicate k (Value.int .u64 0)).length ≤ cur.size := by rw [hcs, List.length_replicate]; omega
      have hst := run_storeCells_at P g (n * 1) e (List.replicate k (Value.int .u64 0)) 0 cur w hg hfit (fun u hu => by rw [List.eq_of_mem_replicate hu]; rfl)
      simp only [Nat.mul_one, Nat.add_zero] at hst
      refine ⟨.slice (some ⟨g, 0, none⟩) (n + k) cap, w.setRow g (cur.toList.take n ++ List.replicate k (Value.int .u64 0) ++ cur.toList.drop (n + (List.replicate k (Value.int .u64 0)).length)).toArray, ?_, ⟨by simp [hxl], .inr ⟨g, cap, _, rfl, hbg, setRow_heap w g cur _ e _ hg, hroom, hcm, ?_, ?_⟩⟩, ⟨rfl, rfl, rfl, by simp, fun k _ hk => setRow_other w g k _ (fun e => hk (by simp [Value.ownBlock, e]))⟩, .inl rfl⟩
      · rcases Nat.eq_zero_or_pos k with rfl | hk
        · simp only [List.replicate_zero] at hst
          simp [Builtin.append_, run_underlying ht, run_underlying htn, sizeOf, typeInfo, zeroValue, hi, hz, asInt, asIntOf, hw0, hby, show n ≤ cap by omega, storeCells, setRow_self w g cur e (0, 0) hg]
        · have hzc : Builtin.zeroCells (Value.int .u64 0).cells k = (List.replicate k (Value.int .u64 0)).toArray := zeroCells_one _ _
          have hk0 : k ≠ 0 := by omega
          simp [Builtin.append_, run_underlying ht, run_underlying htn, sizeOf, typeInfo, zeroValue, hi, hz, asInt, asIntOf, hw, hneg, hsize, hby, h48i, hroom, hk0, hzc, Addr.add_lit, hst]
      · simp only [List.size_toArray, List.length_append, List.length_take, List.length_drop, Array.length_toList, List.length_replicate]
        omega
      · have h1 : (cur.toList.take n) = xs := by rw [← htake, Nat.mul_one]
        rw [h1, Nat.mul_one]
        show (xs ++ List.replicate k (Value.int .u64 0) ++ _).take (n + k) = _
        rw [show n + k = (xs ++ List.replicate k (Value.int .u64 0)).length by simp [hxl], List.take_left]
    · have hk : 0 < k := by omega
      have holds : ∀ j u, xs[j]? = some u → w.drew.cell? ((⟨g, 0, none⟩ : Addr).add j) = some u := fun j u h => hown.cells (g := g) rfl j u h
      have hr := Lib.run_append_grow_zeros w t tn ty e i (.int .u64 0) kq kn ht htn hi hz (some ⟨g, 0, none⟩) n cap xs (run_firstCells_some (P := P) w.drew i.size n ⟨g, 0, none⟩ n cap xs (by rw [hsize, hxl, Nat.mul_one]) holds) k hk (by omega) (by omega) (by omega) (by rw [hby]; omega)
        (by rw [hby]; exact growslice_fits (by omega) (by omega))
      have hge := grownCap_ge w (n + k) cap e
      have hcm2 := grownCap_le_maxLen w (n + k) cap e (by unfold maxLen; omega)
      refine ⟨_, _, hr, ⟨by simp [hxl], .inr ⟨w.heap.size, _, _, rfl, hbase, heap_alloc_new w.drew _, by omega, hcm2, ?_, ?_⟩⟩, ⟨rfl, rfl, rfl, by simp, fun q hq _ => (heap_alloc_old w.drew _ hq).trans rfl⟩, .inr rfl⟩
      · rw [Array.size_append, Array.size_append, size_zeroCells, size_zeroCells]
        simp [Value.cells, hxl]
        omega
      · show ((xs.toArray ++ Builtin.zeroCells #[Value.int .u64 0] k ++ _).toList.take _) = _
        rw [zeroCells_one, Array.toList_append, Array.toList_append]
        show (xs ++ List.replicate k (Value.int .u64 0) ++ _).take _ = _
        rw [Nat.mul_one, show n + k = (xs ++ List.replicate k (Value.int .u64 0)).length by simp [hxl], List.take_left]
/-- .. at a step of a region that draws its order -/
theorem step_zeros {ops : Array Oper} {o : Oper} {a : Act} {K : Act → World → Prop} {E : Prop} {Q : Exit → Act → World → Prop} (hgd : o.guard = none) (s x : Operand) (t tn : TypeId)
    (ho : o.op = .call { callee := .builtin .append, args := #[s, x], argTypes := #[t, tn] })
    (base : Nat) (e : TypeId) (i : TypeInfo) (kq kn : IntKind) (ht : P.underlying t = some (.slice e)) (htn : P.underlying tn = some (.int kn)) (hi : P.info? e = some i) (hz : i.zero = some (.int .u64 0)) (hsize : i.size = 1) (hby : i.bytes = 8)
    (v : Value) (n : Nat) (xs : List Value) (hs : a.eval s = v) (hown : w.ownsRow base e 1 v n xs) (k : Nat) (hx : a.eval x = .int kq k) (h63 : n + k ≤ 1000000) (hbase : base ≤ w.heap.size)
    (h : ∀ v' w', w'.ownsRow base e 1 v' (n + k) (xs ++ List.replicate k (.int .u64 0)) → w.grownBy w' v.ownBlock → (v'.ownBlock = v.ownBlock ∨ v'.ownBlock = some w.heap.size) → K (a.put o.dst v') w') :
    if Region.wanted o (yielded ops a.tmps) = true then Oper.wp P o a w K Q else E := by
  have hw : Region.wanted o (yielded ops a.tmps) = true := by simp [Region.wanted, hgd]
  rw [if_pos hw]
  obtain ⟨v', w', hrun, r1, r2, r3⟩ := run_append_zeros (P := P) w base t tn o.type e i kq kn ht htn hi hz hsize hby v n xs hown k h63 hbase
  unfold Oper.wp execOp
  simp only [ho, resolve, invoke, builtin, Sem.run_bind, Sem.run_pure, Result.andThen_ok, List.map_toArray, List.map_cons, List.map_nil, hs, hx, hrun]
  exact h v' w' r1 r2 r3
end
end Go.Proofs.YtijpeepdedfhoaaGreat
