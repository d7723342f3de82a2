/- Slices of parts (a prime, and how often) and of proofs (a number, a root, its parts). -/
import Derived.Test.YthomeenmcajmdaaDoorKit
import Derived.Laws.OwnMore
import Derived.Laws.AppendOwn
import Derived.Maps.OwnSet
namespace Go.Proofs.YthomeenmcajmdaaDoor
open Go.RowKit Go.ChangeShapes Go.WideShapes Go.ChangeAt

/-- in the world w the slice v reads as the parts ps -/
def Parts (w : World) (v : Value) (ps : List (Int × Int)) : Prop :=
  ∃ (a : Option Addr) (cap : Nat), v = .slice a ps.length cap ∧ ps.length ≤ cap ∧ cap ≤ 9223372036854775807 ∧
    (0 < ps.length → ∃ b off, a = some ⟨b, off, none⟩ ∧ b < w.heap.size ∧ ∀ j, j < ps.length →
      w.cell? ⟨b, off + j * 2, none⟩ = some (.int .u64 (ps.getD j (0, 0)).1) ∧ w.cell? ⟨b, off + j * 2 + 1, none⟩ = some (.int .i64 (ps.getD j (0, 0)).2))
theorem Parts.ext {w w' : World} {v : Value} {ps : List (Int × Int)} (h : Parts w v ps) (he : Ext w w') : Parts w' v ps := by
  obtain ⟨a, cap, h1, h2, h3, h4⟩ := h
  refine ⟨a, cap, h1, h2, h3, fun hp => ?_⟩
  obtain ⟨b, off, ha, hb, hc⟩ := h4 hp
  exact ⟨b, off, ha, Nat.lt_of_lt_of_le hb he.size, fun j hj => ⟨(he.cells _ _ hb).trans (hc j hj).1, (he.cells _ _ hb).trans (hc j hj).2⟩⟩
theorem Parts.nil {w : World} : Parts w (.slice none 0 0) [] := ⟨none, 0, rfl, by simp, by omega, by simp⟩

/-- its numbers are the machine's -/
def PartsOk (ps : List (Int × Int)) : Prop := ∀ q ∈ ps, 0 ≤ q.1 ∧ q.1 ≤ 18446744073709551615 ∧ -9223372036854775808 ≤ q.2 ∧ q.2 ≤ 9223372036854775807
theorem getD_mem {α : Type} {xs : List α} {k : Nat} (d : α) (hk : k < xs.length) : xs.getD k d ∈ xs := by
  have e : xs.getD k d = xs[k] := by simp [List.getD, List.getElem?_eq_getElem hk]
  rw [e]; exact List.getElem_mem hk
theorem PartsOk.get {ps : List (Int × Int)} (h : PartsOk ps) {k : Nat} (hk : k < ps.length) : 0 ≤ (ps.getD k (0, 0)).1 ∧ (ps.getD k (0, 0)).1 ≤ 18446744073709551615 ∧ -9223372036854775808 ≤ (ps.getD k (0, 0)).2 ∧ (ps.getD k (0, 0)).2 ≤ 9223372036854775807 :=
  h _ (getD_mem _ hk)

/-- a proof: its number, its root, its parts -/
structure Prf where
  num : Int
  root : Int
  parts : List (Int × Int)
def Prf.zero : Prf := ⟨0, 0, []⟩
def Prf.Ok (f : Prf) : Prop := 0 ≤ f.num ∧ f.num ≤ 18446744073709551615 ∧ 0 ≤ f.root ∧ f.root ≤ 18446744073709551615 ∧ PartsOk f.parts
/-- in the world w the slice v reads as the proofs l -/
def Proofs (w : World) (v : Value) (l : List Prf) : Prop :=
  ∃ (a : Option Addr) (cap : Nat), v = .slice a l.length cap ∧ l.length ≤ cap ∧ cap ≤ 9223372036854775807 ∧
    (0 < l.length → ∃ b off, a = some ⟨b, off, none⟩ ∧ b < w.heap.size ∧ ∀ j, j < l.length →
      w.cell? ⟨b, off + j * 3, none⟩ = some (.int .u64 (l.getD j .zero).num) ∧ w.cell? ⟨b, off + j * 3 + 1, none⟩ = some (.int .u64 (l.getD j .zero).root) ∧
      ∃ v', w.cell? ⟨b, off + j * 3 + 2, none⟩ = some v' ∧ Parts w v' (l.getD j .zero).parts)
theorem Proofs.ext {w w' : World} {v : Value} {l : List Prf} (h : Proofs w v l) (he : Ext w w') : Proofs w' v l := by
  obtain ⟨a, cap, h1, h2, h3, h4⟩ := h
  refine ⟨a, cap, h1, h2, h3, fun hp => ?_⟩
  obtain ⟨b, off, ha, hb, hc⟩ := h4 hp
  refine ⟨b, off, ha, Nat.lt_of_lt_of_le hb he.size, fun j hj => ?_⟩
  obtain ⟨c1, c2, v', c3, c4⟩ := hc j hj
  exact ⟨(he.cells _ _ hb).trans c1, (he.cells _ _ hb).trans c2, v', (he.cells _ _ hb).trans c3, c4.ext he⟩
theorem Proofs.nil {w : World} : Proofs w (.slice none 0 0) [] := ⟨none, 0, rfl, by simp, by omega, by simp⟩

/-- block g holds the cells cs -/
def Blk (w : World) (g : Nat) (t : TypeId) (cs : Array Value) : Prop := w.heap[g]? = some (.cells cs t (0, 0))
theorem Blk.lt {w : World} {g : Nat} {t : TypeId} {cs : Array Value} (h : Blk w g t cs) : g < w.heap.size := by
  rcases Nat.lt_or_ge g w.heap.size with hlt | hge
  · exact hlt
  · unfold Blk at h; rw [Array.getElem?_eq_none hge] at h; cases h
theorem Blk.cell {w : World} {g : Nat} {t : TypeId} {cs : Array Value} (h : Blk w g t cs) (i : Nat) : w.cell? ⟨g, i, none⟩ = cs[i]? := cell_of_row w g i cs t (0, 0) h
theorem Blk.frozen {w : World} {g : Nat} {t : TypeId} {cs : Array Value} (h : Blk w g t cs) (i : Nat) : w.frozen? ⟨g, i, none⟩ = false := by
  unfold Blk at h
  simp [World.frozen?, h]
theorem Blk.new (w : World) (t : TypeId) (cs : Array Value) : Blk (w.alloc (.cells cs t)) w.heap.size t cs := heap_alloc_new w _
theorem Blk.at_ {w : World} {t : TypeId} {cs : Array Value} {g : Nat} (h : g = w.heap.size) : Blk (w.alloc (.cells cs t)) g t cs := by subst h; exact Blk.new _ _ _
theorem Blk.ext {w w' : World} {g : Nat} {t : TypeId} {cs : Array Value} (h : Blk w g t cs) (he : Ext w w') : Blk w' g t cs := (he.block g h.lt).trans h

/-- the parts as cells -/
def flatP (ps : List (Int × Int)) : List Value := ps.flatMap fun q => [.int .u64 q.1, .int .i64 q.2]
theorem flatP_length : ∀ ps : List (Int × Int), (flatP ps).length = ps.length * 2
  | [] => rfl
  | q :: ps => by have := flatP_length ps; unfold flatP at this ⊢; simp only [List.flatMap_cons, List.length_append, List.length_cons, List.length_nil] at this ⊢; omega
theorem flatP_snoc (ps : List (Int × Int)) (q : Int × Int) : flatP (ps ++ [q]) = flatP ps ++ [.int .u64 q.1, .int .i64 q.2] := by simp [flatP]
theorem flatP_get : ∀ (ps : List (Int × Int)) (j : Nat), j < ps.length → (flatP ps)[j * 2]? = some (.int .u64 (ps.getD j (0, 0)).1) ∧ (flatP ps)[j * 2 + 1]? = some (.int .i64 (ps.getD j (0, 0)).2)
  | [], j, h => by simp at h
  | q :: ps, 0, _ => by simp [flatP]
  | q :: ps, j + 1, h => by
    have := flatP_get ps j (by simpa using h)
    have e : flatP (q :: ps) = .int .u64 q.1 :: .int .i64 q.2 :: flatP ps := by simp [flatP]
    rw [e, show (j + 1) * 2 = j * 2 + 1 + 1 by omega]
    simpa using this
theorem Parts.own {w : World} {base : Nat} {e : TypeId} {v : Value} {ps : List (Int × Int)} (h : w.ownsRow base e 2 v ps.length (flatP ps)) : Parts w v ps := by
  rcases h.2 with ⟨rfl, h0⟩ | ⟨g, cap, cur, rfl, hb, hg, h1, h2, h3, h4⟩
  · obtain rfl : ps = [] := List.eq_nil_of_length_eq_zero h0
    exact Parts.nil
  · refine ⟨_, cap, rfl, h1, by unfold maxLen at h2; omega, fun hp => ⟨g, 0, rfl, (Array.getElem?_eq_some_iff.1 hg).1, fun j hj => ?_⟩⟩
    have hf := flatP_get ps j hj
    have c1 := h.cellAt (j * 2) (by omega)
    have c2 := h.cellAt (j * 2 + 1) (by omega)
    rw [Nat.zero_add]
    exact ⟨c1.trans hf.1, c2.trans hf.2⟩
theorem Ext.grown {a w w' : World} {row : Option Nat} (h : Ext a w) (hg : w.grownBy w' row) (hr : ∀ k, row = some k → a.heap.size ≤ k) : Ext a w' := Below.grown h hg h.size hr
/-- a block that was made last, cell by cell -/
theorem cells_new (w : World) (cs : List Value) (t : TypeId) {g : Nat} (hg : g = w.heap.size) : ∀ (j : Nat) (u : Value), cs[j]? = some u → (w.alloc (.cells cs.toArray t)).cell? ((⟨g, 0, none⟩ : Addr).add j) = some u := by
  subst hg
  intro j u h
  have e : ((⟨w.heap.size, 0, none⟩ : Addr).add j) = ⟨w.heap.size, 0 + j, none⟩ := add_plain _ _ _
  rw [e, Nat.zero_add, cell_new]
  simpa using h

/-- a region that draws its order, walked once, whose calls only let the world grow -/
theorem region_ext {P : Program} {id : Nat} {Q : Exit → Act → World → Prop} {a : Act} {w : World} (w0 : World) {l : List Oper} (hm : P.follows .mixedOrders = true) (hB : Region.lexB .any l.toArray = true) (h0 : Ext w0 w)
    (h : wpQuiet P l.toArray (fun w' => Ext w0 w') (fun a' => ∀ w', Ext w0 w' → Q .normal a' w') l a) : (Code.region id l.toArray true).wp P Q a w :=
  wp_region_quiet (C := fun w' => Ext w0 w') hm hB h0.drew (by simpa using h)
theorem quiet_e {P : Program} {f : FuncId} {args : Array Value} {w0 w' : World} {v : Value} (h0 : Ext w0 w') (h : Calls P f args w' (Ret v w')) :
    Calls P f args w' fun e w'' => e = .returned v ∧ Ext w0 w'' := h.mono fun _ _ ⟨he, hx⟩ => ⟨he, h0.trans hx⟩

theorem Blk.set_ {w : World} {g : Nat} {t : TypeId} {cs : Array Value} (h : Blk w g t cs) (i : Nat) (u : Value) : Blk (w.setCell ⟨g, i, none⟩ u) g t (cs.setIfInBounds i u) := by
  unfold Blk at h ⊢
  simp [World.setCell, Array.getElem?_modify, h]
theorem Ext.setCell {a w : World} (h : Ext a w) {p : Addr} (hp : a.heap.size ≤ p.block) (u : Value) : Ext a (w.setCell p u) := Below.setCell h hp u

/-- a slice of parts is as it was while a cell of another block is written -/
theorem Parts.set_ {w : World} {v : Value} {ps : List (Int × Int)} (h : Parts w v ps) {g : Nat} (hg : ∀ k, v.ownBlock = some k → k ≠ g) (i : Nat) (u : Value) : Parts (w.setCell ⟨g, i, none⟩ u) v ps := by
  obtain ⟨a, cap, rfl, h2, h3, h4⟩ := h
  refine ⟨a, cap, rfl, h2, h3, fun hp => ?_⟩
  obtain ⟨b, off, rfl, hb, hc⟩ := h4 hp
  have hne := hg b (by simp [Value.ownBlock])
  refine ⟨b, off, rfl, by simpa [World.setCell] using hb, fun j hj => ?_⟩
  have e : ∀ o, (w.setCell ⟨g, i, none⟩ u).cell? ⟨b, o, none⟩ = w.cell? ⟨b, o, none⟩ := fun o =>
    World.cell?_of_block (Below.heap_setCell w ⟨g, i, none⟩ u b hne)
  rw [e, e]
  exact hc j hj

theorem ownsRow_ext {w w' : World} {base : Nat} {e : TypeId} {size n : Nat} {v : Value} {xs : List Value} (h : w.ownsRow base e size v n xs) (he : Ext w w') : w'.ownsRow base e size v n xs := by
  refine ⟨h.1, ?_⟩
  rcases h.2 with hn | ⟨g, cap, cur, rfl, hb, hg, r⟩
  · exact .inl hn
  · exact .inr ⟨g, cap, cur, rfl, hb, (he.block g (Array.getElem?_eq_some_iff.1 hg).1).trans hg, r⟩
theorem ownsRow_low {w : World} {base base' : Nat} {e : TypeId} {size n : Nat} {v : Value} {xs : List Value} (h : w.ownsRow base e size v n xs) (hb : base' ≤ base) : w.ownsRow base' e size v n xs := by
  refine ⟨h.1, ?_⟩
  rcases h.2 with hn | ⟨g, cap, cur, rfl, hb', r⟩
  · exact .inl hn
  · exact .inr ⟨g, cap, cur, rfl, Nat.le_trans hb hb', r⟩
/-- rows of two types share no block -/
theorem ownsRow_apart {w : World} {base base' : Nat} {e e' : TypeId} {size size' n n' : Nat} {v v' : Value} {xs xs' : List Value} (h : w.ownsRow base e size v n xs) (h' : w.ownsRow base' e' size' v' n' xs') (hne : e ≠ e') : v.ownBlock = none ∨ v.ownBlock ≠ v'.ownBlock := by
  rcases h.2 with ⟨rfl, _⟩ | ⟨g, cap, cur, rfl, hb, hg, _⟩
  · exact .inl rfl
  · right
    rcases h'.2 with ⟨rfl, _⟩ | ⟨g', cap', cur', rfl, hb', hg', _⟩
    · simp [Value.ownBlock]
    · intro he
      obtain rfl : g = g' := by simpa [Value.ownBlock] using he
      rw [hg] at hg'
      injection hg' with h1
      injection h1 with _ h2
      exact hne h2
theorem ownsRow_blk {w : World} {base : Nat} {e t : TypeId} {size n g : Nat} {v : Value} {xs : List Value} {cs : Array Value} (h : w.ownsRow base e size v n xs) (hB : Blk w g t cs) (hne : e ≠ t) : v.ownBlock = none ∨ v.ownBlock ≠ some g := by
  rcases h.2 with ⟨rfl, _⟩ | ⟨g', cap, cur, rfl, hb, hg, _⟩
  · exact .inl rfl
  · right
    intro he
    obtain rfl : g' = g := by simpa [Value.ownBlock] using he
    unfold Blk at hB
    rw [hg] at hB
    injection hB with h1
    injection h1 with _ h2
    exact hne h2
/-- a map shares no block with a row -/
theorem ownsRow_map {w : World} {base : Nat} {e : TypeId} {size n b m : Nat} {v : Value} {xs : List Value} {H : Type} {P : Program} {k : TypeId} {R : Value → Option (DataW H × List MemPlace)} {D : DataW H} (h : w.ownsRow base e size v n xs) (hm : w.ownsMap P k R b m D) : some b ≠ v.ownBlock := by
  rcases h.2 with ⟨rfl, _⟩ | ⟨g', cap, cur, rfl, hb, hg, _⟩
  · simp [Value.ownBlock]
  · intro he
    obtain rfl : b = g' := by simpa [Value.ownBlock] using he
    obtain ⟨es, clock, hb, _⟩ := hm
    rw [hg] at hb
    cases hb
theorem grownBy_set (w : World) (g i : Nat) (u : Value) : w.grownBy (w.setCell ⟨g, i, none⟩ u) (some g) :=
  ⟨rfl, rfl, rfl, by simp [World.setCell], fun k _ hne => Below.heap_setCell w ⟨g, i, none⟩ u k (fun e => hne (by rw [e]))⟩

theorem Proofs.take {w : World} {a : Option Addr} {m cap : Nat} {l : List Prf} (h : Proofs w (.slice a m cap) l) (n : Nat) (hn : n ≤ l.length) : Proofs w (.slice a n cap) (l.take n) := by
  obtain ⟨a', cap', e, h1, h2, h3⟩ := h
  injection e with e1 e2 e3
  subst e1; subst e3
  have hl : (l.take n).length = n := by simp; omega
  refine ⟨a, cap, by rw [hl], by omega, h2, fun hp => ?_⟩
  obtain ⟨b, off, ha, hb, hc⟩ := h3 (by omega)
  refine ⟨b, off, ha, hb, fun j hj => ?_⟩
  have e2 : (l.take n).getD j .zero = l.getD j .zero := by simp [List.getD, show j < n by omega]
  rw [e2]
  exact hc j (by omega)
end Go.Proofs.YthomeenmcajmdaaDoor
