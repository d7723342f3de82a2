/- Small tools for walks and rows: worlds that have only grown, slices of integers, and the step from a law's contract to its row. -/
import Derived.Test.YthomeenmcajmdaaDoorBun01
import Derived.WalkKit
import Derived.WalkSpells
import Derived.WalkLawsBesides
import Derived.BigQuiet
import Derived.Deep.QuietTactic
import Derived.Deep.RegionWith
import Derived.Deep.DeepCutAuto
import Derived.ProofKit
import Derived.OpenShut
import Derived.Carry
namespace Go.Proofs.YthomeenmcajmdaaDoor
open Go.RowKit Go.ChangeShapes Go.WideShapes Go.ChangeAt

theorem u64_wf {n : Int} (h : (Lit.int .u64 n).wf = true) : 0 ≤ n ∧ n ≤ 18446744073709551615 := by
  simp [Lit.wf, IntKind.min, IntKind.max, IntKind.bits, IntKind.signed] at h; omega
theorem u32_wf {n : Int} (h : (Lit.int .u32 n).wf = true) : 0 ≤ n ∧ n ≤ 4294967295 := by
  simp [Lit.wf, IntKind.min, IntKind.max, IntKind.bits, IntKind.signed] at h; omega
theorem u8_wf {n : Int} (h : (Lit.int .u8 n).wf = true) : 0 ≤ n ∧ n ≤ 255 := by
  simp [Lit.wf, IntKind.min, IntKind.max, IntKind.bits, IntKind.signed] at h; omega
theorem i64_wf {n : Int} (h : (Lit.int .i64 n).wf = true) : -9223372036854775808 ≤ n ∧ n ≤ 9223372036854775807 := by
  simp [Lit.wf, IntKind.min, IntKind.max, IntKind.bits, IntKind.signed] at h; omega

/-! ### The world has only grown. -/
/-- all that was there is as it was -/
def Ext (w w' : World) : Prop := Below w.heap.size w w'
theorem Ext.refl (w : World) : Ext w w := Below.refl _ _
theorem Ext.trans {a b c : World} (h : Ext a b) (k : Ext b c) : Ext a c := Below.trans h (Below.mono k h.size)
theorem Ext.drew {a b : World} (h : Ext a b) : Ext a b.drew := Below.drew h
theorem Ext.drewN {a b : World} (h : Ext a b) (n : Nat) : Ext a (b.drewN n) := ⟨h.os, h.tape, h.output, h.size, h.block⟩
theorem Ext.alloc {a b : World} (h : Ext a b) (o : Obj) : Ext a (b.alloc o) := Below.alloc h h.size o
theorem Ext.cells {w w' : World} (h : Ext w w') : ∀ b o, b < w.heap.size → w'.cell? ⟨b, o, none⟩ = w.cell? ⟨b, o, none⟩ := fun b o hb => Below.cell (p := ⟨b, o, none⟩) h hb
theorem Ext.size {w w' : World} (h : Ext w w') : w.heap.size ≤ w'.heap.size := Below.size h

/-- what a call answers, and that the world has only grown -/
def Ret (v : Value) (w : World) (e : Ending) (w' : World) : Prop := e = .returned v ∧ Ext w w'

/-- the world has only drawn -/
def Drw (w w' : World) : Prop := ∃ n, w' = w.drewN n
theorem Drw.refl (w : World) : Drw w w := ⟨0, rfl⟩
theorem Drw.drewN {a b : World} (h : Drw a b) (n : Nat) : Drw a (b.drewN n) := by
  obtain ⟨m, rfl⟩ := h
  exact ⟨m + n, World.drewN_drewN _ _ _⟩
theorem Drw.trans {a b c : World} (h : Drw a b) (k : Drw b c) : Drw a c := by
  obtain ⟨n, rfl⟩ := k
  exact h.drewN n
theorem Drw.ext {a b : World} (h : Drw a b) : Ext a b := by
  obtain ⟨n, rfl⟩ := h
  exact (Ext.refl a).drewN n
/-- what a call answers that only draws -/
def RetD (v : Value) (w : World) (e : Ending) (w' : World) : Prop := e = .returned v ∧ Drw w w'
theorem RetD.ret {P : Program} {f : FuncId} {args : Array Value} {v : Value} {w : World} (h : Calls P f args w (RetD v w)) : Calls P f args w (Ret v w) :=
  h.mono fun _ _ ⟨he, hd⟩ => ⟨he, hd.ext⟩
theorem quiet_d {P : Program} {f : FuncId} {args : Array Value} {w : World} {n : Nat} {v : Value}
    (h : Calls P f args (w.drewN n) (RetD v (w.drewN n))) : Calls P f args (w.drewN n) fun e w'' => e = .returned v ∧ ∃ m, w'' = w.drewN m :=
  h.mono fun _ _ ⟨he, m, hm⟩ => ⟨he, n + m, by rw [hm, World.drewN_drewN]⟩
theorem quiet_l {P : Program} {f : FuncId} {args : Array Value} {w : World} {n : Nat} {v : Value}
    (h : Calls P f args (w.drewN n) fun e w' => e = .returned v ∧ w.drewN n = w') : Calls P f args (w.drewN n) fun e w'' => e = .returned v ∧ ∃ m, w'' = w.drewN m :=
  h.mono fun _ _ ⟨he, hm⟩ => ⟨he, n, hm.symm⟩
theorem quiet_add_l {P : Program} {f : FuncId} {args : Array Value} {w : World} {a n : Nat} {v : Value}
    (h : Calls P f args (w.drewN (a + n)) fun e w' => e = .returned v ∧ w.drewN (a + n) = w') : Calls P f args (w.drewN (a + n)) fun e w'' => e = .returned v ∧ ∃ m, w'' = w.drewN (a + m) :=
  h.mono fun _ _ ⟨he, hm⟩ => ⟨he, n, hm.symm⟩
theorem quiet_add_d {P : Program} {f : FuncId} {args : Array Value} {w : World} {a n : Nat} {v : Value}
    (h : Calls P f args (w.drewN (a + n)) (RetD v (w.drewN (a + n)))) : Calls P f args (w.drewN (a + n)) fun e w'' => e = .returned v ∧ ∃ m, w'' = w.drewN (a + m) :=
  h.mono fun _ _ ⟨he, m, hm⟩ => ⟨he, n + m, by rw [hm, World.drewN_drewN, Nat.add_assoc]⟩

theorem below_drewN {B : Nat} {a w : World} (h : Below B a w) (n : Nat) : Below B a (w.drewN n) := ⟨h.os, h.tape, h.output, h.size, h.block⟩

/-! ### Slices of integers -/
/-- in the world w the slice v reads as the numbers xs -/
def Ints (k : IntKind) (w : World) (v : Value) (xs : List Int) : Prop :=
  ∃ (a : Option Addr) (cap : Nat), v = .slice a xs.length cap ∧ xs.length ≤ cap ∧ cap ≤ 9223372036854775807 ∧
    (0 < xs.length → ∃ b off, a = some ⟨b, off, none⟩ ∧ b < w.heap.size ∧ ∀ j, j < xs.length → w.cell? ⟨b, off + j, none⟩ = some (.int k (xs.getD j 0)))
theorem Ints.ext {k : IntKind} {w w' : World} {v : Value} {xs : List Int} (h : Ints k w v xs) (he : Ext w w') : Ints k w' v xs := by
  obtain ⟨a, cap, h1, h2, h3, h4⟩ := h
  refine ⟨a, cap, h1, h2, h3, fun hp => ?_⟩
  obtain ⟨b, off, ha, hb, hc⟩ := h4 hp
  exact ⟨b, off, ha, Nat.lt_of_lt_of_le hb he.size, fun j hj => (he.cells _ _ hb).trans (hc j hj)⟩
theorem Ints.drewN {k : IntKind} {w : World} {v : Value} {xs : List Int} (h : Ints k w v xs) (n : Nat) : Ints k (w.drewN n) v xs := h.ext ((Ext.refl w).drewN n)

theorem Ints.mk {k : IntKind} {w : World} {b off cap : Nat} {xs : List Int} (h1 : xs.length ≤ cap) (h2 : cap ≤ 9223372036854775807) (hb : b < w.heap.size) (hc : ∀ j, j < xs.length → w.cell? ⟨b, off + j, none⟩ = some (.int k (xs.getD j 0))) :
    Ints k w (.slice (some ⟨b, off, none⟩) xs.length cap) xs := ⟨_, cap, rfl, h1, h2, fun _ => ⟨b, off, rfl, hb, hc⟩⟩
theorem Ints.nil {k : IntKind} {w : World} : Ints k w (.slice none 0 0) [] := ⟨none, 0, rfl, by simp, by omega, by simp⟩
/-- a block that was made last -/
theorem cell_new (w : World) (cs : Array Value) (t : TypeId) (j : Nat) : (w.alloc (.cells cs t)).cell? ⟨w.heap.size, j, none⟩ = cs[j]? :=
  World.cell?_alloc_new w cs t j
theorem Ints.new1 {k : IntKind} {w : World} {t : TypeId} {a : Int} : Ints k (w.alloc (.cells #[.int k a] t)) (.slice (some ⟨w.heap.size, 0, none⟩) 1 1) [a] := by
  refine Ints.mk (xs := [a]) (by simp) (by omega) (by simp) fun j hj => ?_
  obtain rfl : j = 0 := by simpa using hj
  rw [Nat.zero_add, cell_new]; rfl
theorem Ints.new2 {k : IntKind} {w : World} {t : TypeId} {a b : Int} : Ints k (w.alloc (.cells #[.int k a, .int k b] t)) (.slice (some ⟨w.heap.size, 0, none⟩) 2 2) [a, b] := by
  refine Ints.mk (xs := [a, b]) (by simp) (by omega) (by simp) fun j hj => ?_
  rw [Nat.zero_add, cell_new]
  match j, hj with
  | 0, _ => rfl
  | 1, _ => rfl
  | j + 2, hj => exact absurd hj (by simp)
theorem Ints.new3 {k : IntKind} {w : World} {t : TypeId} {a b c : Int} : Ints k (w.alloc (.cells #[.int k a, .int k b, .int k c] t)) (.slice (some ⟨w.heap.size, 0, none⟩) 3 3) [a, b, c] := by
  refine Ints.mk (xs := [a, b, c]) (by simp) (by omega) (by simp) fun j hj => ?_
  rw [Nat.zero_add, cell_new]
  match j, hj with
  | 0, _ => rfl
  | 1, _ => rfl
  | 2, _ => rfl
  | j + 3, hj => exact absurd hj (by simp)

theorem Ints.at1 {k : IntKind} {w : World} {t : TypeId} {a : Int} {n : Nat} (h : n = w.heap.size) : Ints k (w.alloc (.cells #[.int k a] t)) (.slice (some ⟨n, 0, none⟩) 1 1) [a] := by subst h; exact Ints.new1
theorem Ints.at2 {k : IntKind} {w : World} {t : TypeId} {a b : Int} {n : Nat} (h : n = w.heap.size) : Ints k (w.alloc (.cells #[.int k a, .int k b] t)) (.slice (some ⟨n, 0, none⟩) 2 2) [a, b] := by subst h; exact Ints.new2
theorem Ints.at3 {k : IntKind} {w : World} {t : TypeId} {a b c : Int} {n : Nat} (h : n = w.heap.size) : Ints k (w.alloc (.cells #[.int k a, .int k b, .int k c] t)) (.slice (some ⟨n, 0, none⟩) 3 3) [a, b, c] := by subst h; exact Ints.new3
theorem Ints.alloc {k : IntKind} {w : World} {v : Value} {xs : List Int} (h : Ints k w v xs) (o : Obj) : Ints k (w.alloc o) v xs := h.ext (Ext.alloc (Ext.refl _) o)

/-- the numbers of a literal -/
theorem Ints.lit {k : IntKind} {w : World} {t : TypeId} {n : Nat} (xs : List Int) (hx : xs.length ≤ 9223372036854775807) (h : n = w.heap.size) : Ints k (w.alloc (.cells (xs.map (Value.int k)).toArray t)) (.slice (some ⟨n, 0, none⟩) xs.length xs.length) xs := by
  subst h
  refine Ints.mk (Nat.le_refl _) hx (by simp) fun j hj => ?_
  rw [Nat.zero_add, cell_new]
  simp [List.getD, hj]

/-- numbers of 64 bits -/
def U64s (xs : List Int) : Prop := ∀ x ∈ xs, 0 ≤ x ∧ x ≤ 18446744073709551615
theorem U64s.get {xs : List Int} (h : U64s xs) {k : Nat} (hk : k < xs.length) : 0 ≤ xs.getD k 0 ∧ xs.getD k 0 ≤ 18446744073709551615 := by
  have e : xs.getD k 0 = xs[k] := by simp [List.getD, List.getElem?_eq_getElem hk]
  rw [e]; exact h _ (List.getElem_mem hk)

theorem U64s.one {a : Int} (h0 : 0 ≤ a) (h : a ≤ 18446744073709551615) : U64s [a] := by
  intro x hx
  obtain rfl : x = a := by simpa using hx
  exact ⟨h0, h⟩
theorem U64s.cons {a : Int} {xs : List Int} (h0 : 0 ≤ a) (h : a ≤ 18446744073709551615) (hx : U64s xs) : U64s (a :: xs) := by
  intro x hx'
  rcases List.mem_cons.1 hx' with rfl | h'
  · exact ⟨h0, h⟩
  · exact hx _ h'
theorem cell_lt {w : World} {a : Addr} {v : Value} (h : w.cell? a = some v) : a.block < w.heap.size := by
  apply Classical.byContradiction
  intro hn
  have : w.heap[a.block]? = none := by simp; omega
  simp [World.cell?, this] at h
/-- an argument that is a slice of integers -/
theorem open_Ints {H : Type} {enc : TypeId × Value → H} {P : Program} {W : World} {spare : Nat → Bool} {base : Nat} {t e : TypeId} {k : IntKind} {v : Value} {d : DataW H} {ps : List MemPlace}
    (ht : P.underlying t = some (.slice e)) (he : P.underlying e = some (.int k)) (hc : P.cellsOf e = 1)
    (hval : Value.okWide P W .any base t v) (hd : DataW.Trod enc P W 0 spare true t v d ps) :
    ∃ xs : List Int, Ints k W v xs ∧ (∀ x ∈ xs, (Lit.int k x).wf = true) := by
  obtain ⟨a0, len, cap, rfl⟩ := okWide_slice ht hval
  obtain ⟨fuel, hf⟩ := hd
  rcases open_ints ht he hc hf with ⟨hcs, hx⟩ | ⟨a, len', cap', zs, hcs, _, hl, hm, hz, hx, hcell, hwz⟩
  · simp [Value.cells] at hcs
    obtain ⟨rfl, rfl, rfl⟩ := hcs
    exact ⟨[], ⟨none, 0, rfl, by simp, by omega, by simp⟩, by simp⟩
  · simp [Value.cells] at hcs
    obtain ⟨rfl, rfl, rfl⟩ := hcs
    unfold maxLen at hm
    have hlz : len ≤ zs.length := by rw [hz]; split <;> omega
    have hlen : (zs.take len).length = len := by simp; omega
    refine ⟨zs.take len, ⟨some a, cap, by rw [hlen], by omega, by omega, fun hp => ?_⟩, fun x hx => hwz x (List.mem_of_mem_take hx)⟩
    obtain ⟨b, off, spot⟩ := a
    have hspot : spot = none := by simpa [Addr.add] using World.cell?_spot (hcell 0 (by omega))
    subst hspot
    refine ⟨b, off, rfl, ?_, fun j hj => ?_⟩
    · have h0 := hcell 0 (by omega)
      exact cell_lt h0
    · have := hcell j (by omega)
      rw [add_plain] at this
      rw [this]
      simp [List.getD, show j < len by omega]

/-! ### A slice that was made -/
theorem make_ints {P : Program} (t e : TypeId) (k : IntKind) (bytes : Nat) (hb : bytes ≤ 8) (ht : P.underlying t = some (.slice e)) (hi : (P.info? e).map (fun i => (i.zero, i.size, i.bytes)) = some (some (.int k 0), 1, bytes))
    (n c : Nat) (hnc : n ≤ c) (hc : c ≤ 35184372088832) (w : World) :
    (Instr.makeSlice t (.int .i64 n) (.int .i64 c)).run P w = .ok (.slice (some ⟨w.heap.size, 0, none⟩) n c) (w.alloc (.cells (madeCells #[Value.int k 0] c) e)) := by
  obtain ⟨i, h1, h2, h3, h4⟩ := info_parts hi
  have hbc : i.bytes * c ≤ 8 * c := Nat.mul_le_mul_right _ (by omega)
  have hbi : (i.bytes : Int) * (c : Int) ≤ 281474976710656 := by rw [← Int.natCast_mul]; omega
  have := run_make (P := P) w t e i _ ht h1 h2 .i64 .i64 n c (by omega) (by omega) hbi (by omega)
  rw [this, h3]
  simp [Value.cells]
theorem Ints.made {k : IntKind} {w : World} {t : TypeId} {g n c : Nat} (hnc : n ≤ c) (hc : c ≤ 9223372036854775807) (hg : g = w.heap.size) : Ints k (w.alloc (.cells (madeCells #[Value.int k 0] c) t)) (.slice (some ⟨g, 0, none⟩) n c) (List.replicate n 0) := by
  subst hg
  refine ⟨_, c, by rw [List.length_replicate], by simpa using hnc, hc, fun hp => ⟨_, 0, rfl, by simp, fun j hj => ?_⟩⟩
  rw [Nat.zero_add, cell_new]
  simp at hj
  simp [madeCells, List.getD, hj, show j < c by omega, Nat.mod_one]

/-! ### Pieces of a slice -/
theorem Ints.take {k : IntKind} {w : World} {b off cap : Nat} {xs : List Int} (n : Nat) (hn : n ≤ xs.length) (h : Ints k w (.slice (some ⟨b, off, none⟩) xs.length cap) xs) :
    Ints k w (.slice (some ⟨b, off, none⟩) n cap) (xs.take n) := by
  obtain ⟨a, cap', e, h1, h2, h3⟩ := h
  injection e with e1 e2 e3
  subst e1; subst e3
  have hl : (xs.take n).length = n := by simp; omega
  refine ⟨_, cap, by rw [hl], by omega, h2, fun hp => ?_⟩
  obtain ⟨b', off', ha, hb, hc⟩ := h3 (by omega)
  refine ⟨b', off', ha, hb, fun j hj => ?_⟩
  rw [hc j (by omega)]
  simp [List.getD, show j < n by omega]
theorem Ints.take' {k : IntKind} {w : World} {a : Option Addr} {m cap : Nat} {xs : List Int} (n : Nat) (hn : n ≤ xs.length) (h : Ints k w (.slice a m cap) xs) :
    Ints k w (.slice a n cap) (xs.take n) := by
  obtain ⟨a', cap', e, h1, h2, h3⟩ := h
  injection e with e1 e2 e3
  subst e1; subst e3
  have hl : (xs.take n).length = n := by simp; omega
  refine ⟨_, cap, by rw [hl], by omega, h2, fun hp => ?_⟩
  obtain ⟨b', off', ha, hb, hc⟩ := h3 (by omega)
  refine ⟨b', off', ha, hb, fun j hj => ?_⟩
  rw [hc j (by omega)]
  simp [List.getD, show j < n by omega]
/-- from the n-th on; where nothing is left, the address doesn't count -/
theorem Ints.drop {k : IntKind} {w : World} {b off m cap : Nat} {xs : List Int} (n : Nat) (hn : n ≤ xs.length) (h : Ints k w (.slice (some ⟨b, off, none⟩) m cap) xs) (a : Option Addr)
    (ha : n < xs.length → a = some ⟨b, off + n, none⟩) (l : Nat) (hl : l = xs.length - n) (c : Nat) (hc : c = cap - n) : Ints k w (.slice a l c) (xs.drop n) := by
  obtain ⟨a', cap', e, h1, h2, h3⟩ := h
  injection e with e1 e2 e3
  subst e1; subst e3
  have hl' : (xs.drop n).length = l := by simp; omega
  refine ⟨a, c, by rw [hl'], by omega, by omega, fun hp => ?_⟩
  obtain ⟨b', off', ha', hb, hc'⟩ := h3 (by omega)
  injection ha' with ha'
  injection ha' with e4 e5
  subst e4; subst e5
  refine ⟨b, off + n, ha (by omega), hb, fun j hj => ?_⟩
  rw [Nat.add_assoc, hc' (n + j) (by omega)]
  simp [List.getD]
theorem Ints.dropq {k : IntKind} {w : World} {a : Option Addr} {m cap : Nat} {xs : List Int} (n : Nat) (hn : n ≤ xs.length) (h : Ints k w (.slice a m cap) xs) :
    Ints k w (.slice (if cap = n then a else a.map fun x => x.add n) (m - n) (cap - n)) (xs.drop n) := by
  obtain ⟨a', cap', e, h1, h2, h3⟩ := h
  injection e with e1 e2 e3
  subst e1; subst e2; subst e3
  have hl' : (xs.drop n).length = xs.length - n := by simp
  refine ⟨_, cap - n, by rw [hl'], by omega, by omega, fun hp => ?_⟩
  obtain ⟨b', off', rfl, hb, hc'⟩ := h3 (by omega)
  refine ⟨b', off' + n, ?_, hb, fun j hj => ?_⟩
  · rw [if_neg (by omega)]
    show some ((⟨b', off', none⟩ : Addr).add n) = _
    rw [add_plain]
  · rw [Nat.add_assoc, hc' (n + j) (by omega)]
    simp [List.getD]
theorem U64s.take {xs : List Int} (h : U64s xs) (n : Nat) : U64s (xs.take n) := fun x hx => h x (List.mem_of_mem_take hx)
theorem U64s.drop {xs : List Int} (h : U64s xs) (n : Nat) : U64s (xs.drop n) := fun x hx => h x (List.mem_of_mem_drop hx)

/-! ### From a law's contract to its row -/
section
variable {H : Type} {enc : TypeId × Value → H} {P : Program}
theorem post_of_below {f : Func} {s : ChangeSpec} {apart fresh handsOn again : Bool} {W W' : World} {args : Array Value} {v : Value} {ds gs : List (DataW H)} {before pa pv : List MemPlace}
    (hW : DataW.Whole enc P f.params.toList s.vars apart W args.toList ds gs before)
    (hres : ∀ (b : Nat) (sp : Nat → Bool) (hd : Bool), DataW.TrodAll enc P W' b sp hd f.resultTypes.toList (v.resultList f.resultTypes.size) (s.fn H (ds ++ gs)).results [])
    (hargs : ∀ sp : Nat → Bool, (∀ p ∈ before, sp p.block = true) → DataW.TrodAll enc P W' 0 sp true f.params.toList args.toList (s.fn H (ds ++ gs)).args pa)
    (hvars : ∀ sp : Nat → Bool, (∀ p ∈ before, sp p.block = true) → DataW.TrodVars enc P W' sp s.vars (s.fn H (ds ++ gs)).vars pv)
    (hps : before = pa ++ pv) (hb : Below W.heap.size W W')
    (hok : ∀ (j : Nat) (t : TypeId) (r : Value), f.resultTypes[j]? = some t → (v.resultList f.resultTypes.size)[j]? = some r → Value.okWide P W' .any 0 t r) :
    s.post enc P f apart fresh handsOn again W args v W' := by
  have hlt : ∀ p ∈ before, p.block < W.heap.size := fun p hp => hW.lt p hp
  have hold : ∀ p ∈ before, (fun b => decide (b < W.heap.size)) p.block = true := fun p hp => by simpa using hlt p hp
  refine ⟨ds, gs, before, [], pa, pv, hW, hres _ _ _, hargs _ hold, hvars _ hold, World.keptBut_mono (fun p hp => ⟨hp, ?_⟩) (hb.frame (· ∈ before)), fun _ => ?_⟩
  · rw [hps, List.mem_append] at hp
    exact Or.inr hp
  · obtain ⟨_, _, _, _, _, hz, hn⟩ := hW
    refine ⟨hok, _, _, ([] ++ pa) ++ pv, ⟨[] ++ pa, pv, trodAll_append (hargs _ (fun _ _ => rfl)) (hres _ _ _), hvars _ (fun _ _ => rfl), rfl, ?_, ?_⟩, ?_⟩
    · intro b off hp
      have hin : MemPlace.cell b off ∈ before := by rw [hps]; simpa using hp
      rw [hb.frozen (hlt _ hin)]
      exact hz b off hin
    · intro ha
      have := hn ha
      rw [hps] at this
      simpa using this
    · intro p hp _
      rw [hps]
      simpa using hp

theorem trodAll_stays (hl : laidOutB P = true) {W W' : World} {sp : Nat → Bool} : ∀ (ts : List TypeId) (vs : List Value) (ds : List (DataW H)) (ps : List MemPlace),
    (∀ t ∈ ts, P.readableRec t = true ∧ t < P.types.size) → DataW.TrodAll enc P W 0 (fun _ => true) true ts vs ds ps → (∀ p ∈ ps, W.sameAt W' p) → (∀ p ∈ ps, sp p.block = true) →
    DataW.TrodAll enc P W' 0 sp true ts vs ds ps
  | [], [], [], _, _, h, _, _ => h
  | t :: ts, v :: vs, d :: ds, ps, ht, h, hs, hp => by
    obtain ⟨p, q, h1, h2, rfl⟩ := h
    refine ⟨p, q, WideElems.Trod_stays hl (ht t (by simp)).1 (ht t (by simp)).2 h1 (fun x hx => hs x (by simp [hx])) (fun x hx => hp x (by simp [hx])), ?_, rfl⟩
    exact trodAll_stays hl ts vs ds q (fun t' h' => ht t' (by simp [h'])) h2 (fun x hx => hs x (by simp [hx])) (fun x hx => hp x (by simp [hx]))
  | [], _ :: _, _, _, _, h, _, _ => h.elim
  | [], [], _ :: _, _, _, h, _, _ => h.elim
  | _ :: _, [], _, _, _, h, _, _ => h.elim
  | _ :: _, _ :: _, [], _, _, h, _, _ => h.elim

/-- a law whose call answers true, and leaves all that was there as it was -/
theorem law_post {f : Func} {s : ChangeSpec} {apart fresh handsOn again : Bool} {W W' : World} {args : Array Value} {ds gs : List (DataW H)} {before : List MemPlace} {tb : TypeId}
    (hl : laidOutB P = true) (hts : f.params.toList.all (fun t => P.readableRec t && decide (t < P.types.size)) = true) (hr : f.resultTypes = #[tb]) (htb : P.underlying tb = some .bool) (hv : s.vars = [])
    (hfn : s.fn H (ds ++ gs) = { results := [.lit (.bool true)], args := ds })
    (hW : DataW.Whole enc P f.params.toList s.vars apart W args.toList ds gs before) (hb : Ext W W') :
    s.post enc P f apart fresh handsOn again W args (.bool true) W' := by
  have hts' : ∀ t ∈ f.params.toList, P.readableRec t = true ∧ t < P.types.size := fun t ht => by
    have := List.all_eq_true.1 hts t ht
    simpa using this
  have hW' := hW
  obtain ⟨p, q, hA, hV, rfl, hz, hn⟩ := hW
  have hq : q = [] := by
    rw [hv] at hV
    cases gs with
    | nil => exact hV
    | cons _ _ => exact hV.elim
  subst hq
  have hlt := hW'.lt
  refine post_of_below (pa := p) (pv := []) hW' ?_ ?_ ?_ rfl hb ?_
  · intro b sp hd
    rw [hfn, hr]
    exact trodAll_cons_mk (shut_bool htb _) trodAll_mk0
  · intro sp hsp
    rw [hfn]
    exact trodAll_stays hl _ _ _ _ hts' hA (fun x hx => hb.same (hlt x (by simp [hx]))) (fun x hx => hsp x (by simp [hx]))
  · intro sp _
    rw [hfn, hv]
    rfl
  · rw [hr]
    intro j t r hj hv'
    match j, hj, hv' with
    | 0, hj, hv' =>
      simp [Value.resultList] at hj hv'
      subst hj; subst hv'
      exact okWide_bool_mk htb _
    | j + 1, hj, _ => simp at hj
end
end Go.Proofs.YthomeenmcajmdaaDoor
