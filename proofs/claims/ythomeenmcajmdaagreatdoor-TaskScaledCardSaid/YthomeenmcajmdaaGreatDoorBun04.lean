import Derived.Test.YthomeenmcajmdaaGreatDoorBun02
import Derived.Laws.OwnMore
import Derived.Laws.AppendOwn
import Derived.Maps.OwnSet
import Derived.Laws.CopyOwn
import Derived.Lib.LazyBuf
import Derived.Test.YthomeenmcajmdaaGreatDoorBun03
import Derived.Test.YthomeenmcajmdaaGreatDoorBun05
namespace Go.Proofs.YthomeenmcajmdaaGreatDoor
open Go.RowKit Go.ChangeShapes Go.WideShapes Go.ChangeAt
def Parts (w : World) (v : Value) (ps : List (Int × Int)) : Prop :=
  ∃ (a : Option Addr) (cap : Nat), v = .slice a ps.length cap ∧ ps.length ≤ cap ∧ cap ≤ 9223372036854775807 ∧
    (0 < ps.length → ∃ b off, a = some ⟨b, off, none⟩ ∧ b < w.heap.size ∧ ∀ j, j < ps.length →
      w.cell? ⟨b, off + j * 2, none⟩ = some (.int .u64 (ps.getD j (0, 0)).1) ∧ w.cell? ⟨b, off + j * 2 + 1, none⟩ = some (.int .i64 (ps.getD j (0, 0)).2))
theorem Parts.ext {w w' : World} {v : Value} {ps : List (Int × Int)} (h : Parts w v ps) (he : Ext w w') : Parts w' v ps := by
  obtain ⟨a, cap, h1, h2, h3, h4⟩ := h
  refine ⟨a, cap, h1, h2, h3, fun hp => ?_⟩
  obtain ⟨b, off, ha, hb, hc⟩ := h4 hp
  exact ⟨b, off, ha, Nat.lt_of_lt_of_le hb he.size, fun j hj => ⟨(he.cells _ _ hb).trans (hc j hj).1, (he.cells _ _ hb).trans (hc j hj).2⟩⟩
theorem Parts.nil {w : World} : Parts w (.slice none 0 0) [] := ⟨none, 0, rfl, by simp, by omega, by simp⟩
def PartsOk (ps : List (Int × Int)) : Prop := ∀ q ∈ ps, 0 ≤ q.1 ∧ q.1 ≤ 18446744073709551615 ∧ -9223372036854775808 ≤ q.2 ∧ q.2 ≤ 9223372036854775807
theorem getD_mem {α : Type} {xs : List α} {k : Nat} (d : α) (hk : k < xs.length) : xs.getD k d ∈ xs := by
  have e : xs.getD k d = xs[k] := by simp [List.getD, List.getElem?_eq_getElem hk]
  rw [e]; exact List.getElem_mem hk
theorem PartsOk.get {ps : List (Int × Int)} (h : PartsOk ps) {k : Nat} (hk : k < ps.length) : 0 ≤ (ps.getD k (0, 0)).1 ∧ (ps.getD k (0, 0)).1 ≤ 18446744073709551615 ∧ -9223372036854775808 ≤ (ps.getD k (0, 0)).2 ∧ (ps.getD k (0, 0)).2 ≤ 9223372036854775807 :=
  h _ (getD_mem _ hk)
structure Prf where
  num : Int
  root : Int
  parts : List (Int × Int)
def Prf.zero : Prf := ⟨0, 0, []⟩
def Prf.Ok (f : Prf) : Prop := 0 ≤ f.num ∧ f.num ≤ 18446744073709551615 ∧ 0 ≤ f.root ∧ f.root ≤ 18446744073709551615 ∧ PartsOk f.parts
def Proofs (w : World) (v : Value) (l : List Prf) : Prop :=
  ∃ (a : Option Addr) (cap : Nat), v = .slice a l.length cap ∧ l.length ≤ cap ∧ cap ≤ 9223372036854775807 ∧
    (0 < l.length → ∃ b off, a = some ⟨b, off, none⟩ ∧ b < w.heap.size ∧ ∀ j, j < l.length →
      w.cell? ⟨b, off + j * 3, none⟩ = some (.int .u64 (l.getD j .zero).num) ∧ w.cell? ⟨b, off + j * 3 + 1, none⟩ = some (.int .u64 (l.getD j .zero).root) ∧
      ∃ v', w.cell? ⟨b, off + j * 3 + 2, none⟩ = some v' ∧ Parts w v' (l.getD j .zero).parts)
theorem Proofs.ext {w w' : World} {v : Value} {l : List Prf} (h : Proofs w v l) (he : Ext w w') : Proofs w' v l := by
  obtain ⟨a, cap, h1, h2, h3, h4⟩ := h
  refine ⟨a, cap, h1, h2, h3, fun hp => ?_⟩
  obtain ⟨b, off, ha, hb, hc⟩ := h4 hp
  refine ⟨b, off, ha, Nat.lt_of_lt_of_le hb he.size, fun j hj => ?_⟩
  obtain ⟨c1, c2, v', c3, c4⟩ := hc j hj
  exact ⟨(he.cells _ _ hb).trans c1, (he.cells _ _ hb).trans c2, v', (he.cells _ _ hb).trans c3, c4.ext he⟩
theorem Proofs.nil {w : World} : Proofs w (.slice none 0 0) [] := ⟨none, 0, rfl, by simp, by omega, by simp⟩
def Blk (w : World) (g : Nat) (t : TypeId) (cs : Array Value) : Prop := w.heap[g]? = some (.cells cs t (0, 0))
theorem Blk.lt {w : World} {g : Nat} {t : TypeId} {cs : Array Value} (h : Blk w g t cs) : g < w.heap.size := by
  rcases Nat.lt_or_ge g w.heap.size with hlt | hge
  · exact hlt
  · unfold Blk at h; rw [Array.getElem?_eq_none hge] at h; cases h
theorem Blk.cell {w : World} {g : Nat} {t : TypeId} {cs : Array Value} (h : Blk w g t cs) (i : Nat) : w.cell? ⟨g, i, none⟩ = cs[i]? := cell_of_row w g i cs t (0, 0) h
theorem Blk.frozen {w : World} {g : Nat} {t : TypeId} {cs : Array Value} (h : Blk w g t cs) (i : Nat) : w.frozen? ⟨g, i, none⟩ = false := by
  unfold Blk at h
  simp [World.frozen?, h]
theorem Blk.new (w : World) (t : TypeId) (cs : Array Value) : Blk (w.alloc (.cells cs t)) w.heap.size t cs := heap_alloc_new w _
theorem Blk.at_ {w : World} {t : TypeId} {cs : Array Value} {g : Nat} (h : g = w.heap.size) : Blk (w.alloc (.cells cs t)) g t cs := by subst h; exact Blk.new _ _ _
theorem Blk.ext {w w' : World} {g : Nat} {t : TypeId} {cs : Array Value} (h : Blk w g t cs) (he : Ext w w') : Blk w' g t cs := (he.block g h.lt).trans h
def flatP (ps : List (Int × Int)) : List Value := ps.flatMap fun q => [.int .u64 q.1, .int .i64 q.2]
theorem flatP_snoc (ps : List (Int × Int)) (q : Int × Int) : flatP (ps ++ [q]) = flatP ps ++ [.int .u64 q.1, .int .i64 q.2] := by simp [flatP]
theorem flatP_get : ∀ (ps : List (Int × Int)) (j : Nat), j < ps.length → (flatP ps)[j * 2]? = some (.int .u64 (ps.getD j (0, 0)).1) ∧ (flatP ps)[j * 2 + 1]? = some (.int .i64 (ps.getD j (0, 0)).2)
  | [], j, h => by simp at h
  | q :: ps, 0, _ => by simp [flatP]
  | q :: ps, j + 1, h => by
    have := flatP_get ps j (by simpa using h)
    have e : flatP (q :: ps) = .int .u64 q.1 :: .int .i64 q.2 :: flatP ps := by simp [flatP]
    rw [e, show (j + 1) * 2 = j * 2 + 1 + 1 by omega]
    simpa using this
theorem Parts.own {w : World} {base : Nat} {e : TypeId} {v : Value} {ps : List (Int × Int)} (h : w.ownsRow base e 2 v ps.length (flatP ps)) : Parts w v ps := by
  rcases h.2 with ⟨rfl, h0⟩ | ⟨g, cap, cur, rfl, hb, hg, h1, h2, h3, h4⟩
  · obtain rfl : ps = [] := List.eq_nil_of_length_eq_zero h0
    exact Parts.nil
  · refine ⟨_, cap, rfl, h1, by unfold maxLen at h2; omega, fun hp => ⟨g, 0, rfl, (Array.getElem?_eq_some_iff.1 hg).1, fun j hj => ?_⟩⟩
    have hf := flatP_get ps j hj
    have c1 := h.cellAt (j * 2) (by omega)
    have c2 := h.cellAt (j * 2 + 1) (by omega)
    rw [Nat.zero_add]
    exact ⟨c1.trans hf.1, c2.trans hf.2⟩
theorem Ext.grown {a w w' : World} {row : Option Nat} (h : Ext a w) (hg : w.grownBy w' row) (hr : ∀ k, row = some k → a.heap.size ≤ k) : Ext a w' := Below.grown h hg h.size hr
theorem cells_new (w : World) (cs : List Value) (t : TypeId) {g : Nat} (hg : g = w.heap.size) : ∀ (j : Nat) (u : Value), cs[j]? = some u → (w.alloc (.cells cs.toArray t)).cell? ((⟨g, 0, none⟩ : Addr).add j) = some u := by
  subst hg
  intro j u h
  have e : ((⟨w.heap.size, 0, none⟩ : Addr).add j) = ⟨w.heap.size, 0 + j, none⟩ := add_plain _ _ _
  rw [e, Nat.zero_add, cell_new]
  simpa using h
theorem region_ext {P : Program} {id : Nat} {Q : Exit → Act → World → Prop} {a : Act} {w : World} (w0 : World) {l : List Oper} (hm : P.follows .mixedOrders = true) (hB : Region.lexB .any l.toArray = true) (h0 : Ext w0 w)
    (h : wpQuiet P l.toArray (fun w' => Ext w0 w') (fun a' => ∀ w', Ext w0 w' → Q .normal a' w') l a) : (Code.region id l.toArray true).wp P Q a w :=
  wp_region_quiet (C := fun w' => Ext w0 w') hm hB h0.drew (by simpa using h)
theorem quiet_e {P : Program} {f : FuncId} {args : Array Value} {w0 w' : World} {v : Value} (h0 : Ext w0 w') (h : Calls P f args w' (Ret v w')) :
    Calls P f args w' fun e w'' => e = .returned v ∧ Ext w0 w'' := h.mono fun _ _ ⟨he, hx⟩ => ⟨he, h0.trans hx⟩
theorem Blk.set_ {w : World} {g : Nat} {t : TypeId} {cs : Array Value} (h : Blk w g t cs) (i : Nat) (u : Value) : Blk (w.setCell ⟨g, i, none⟩ u) g t (cs.setIfInBounds i u) := by
  unfold Blk at h ⊢
  simp [World.setCell, Array.getElem?_modify, h]
theorem Ext.setCell {a w : World} (h : Ext a w) {p : Addr} (hp : a.heap.size ≤ p.block) (u : Value) : Ext a (w.setCell p u) := Below.setCell h hp u
theorem Parts.set_ {w : World} {v : Value} {ps : List (Int × Int)} (h : Parts w v ps) {g : Nat} (hg : ∀ k, v.ownBlock = some k → k ≠ g) (i : Nat) (u : Value) : Parts (w.setCell ⟨g, i, none⟩ u) v ps := by
  obtain ⟨a, cap, rfl, h2, h3, h4⟩ := h
  refine ⟨a, cap, rfl, h2, h3, fun hp => ?_⟩
  obtain ⟨b, off, rfl, hb, hc⟩ := h4 hp
  have hne := hg b (by simp [Value.ownBlock])
  refine ⟨b, off, rfl, by simpa [World.setCell] using hb, fun j hj => ?_⟩
  have e : ∀ o, (w.setCell ⟨g, i, none⟩ u).cell? ⟨b, o, none⟩ = w.cell? ⟨b, o, none⟩ := fun o =>
    World.cell?_of_block (Below.heap_setCell w ⟨g, i, none⟩ u b hne)
  rw [e, e]
  exact hc j hj
theorem ownsRow_ext {w w' : World} {base : Nat} {e : TypeId} {size n : Nat} {v : Value} {xs : List Value} (h : w.ownsRow base e size v n xs) (he : Ext w w') : w'.ownsRow base e size v n xs := by
  refine ⟨h.1, ?_⟩
  rcases h.2 with hn | ⟨g, cap, cur, rfl, hb, hg, r⟩
  · exact .inl hn
  · exact .inr ⟨g, cap, cur, rfl, hb, (he.block g (Array.getElem?_eq_some_iff.1 hg).1).trans hg, r⟩
theorem ownsRow_low {w : World} {base base' : Nat} {e : TypeId} {size n : Nat} {v : Value} {xs : List Value} (h : w.ownsRow base e size v n xs) (hb : base' ≤ base) : w.ownsRow base' e size v n xs := by
  refine ⟨h.1, ?_⟩
  rcases h.2 with hn | ⟨g, cap, cur, rfl, hb', r⟩
  · exact .inl hn
  · exact .inr ⟨g, cap, cur, rfl, Nat.le_trans hb hb', r⟩
theorem ownsRow_apart {w : World} {base base' : Nat} {e e' : TypeId} {size size' n n' : Nat} {v v' : Value} {xs xs' : List Value} (h : w.ownsRow base e size v n xs) (h' : w.ownsRow base' e' size' v' n' xs') (hne : e ≠ e') : v.ownBlock = none ∨ v.ownBlock ≠ v'.ownBlock := by
  rcases h.2 with ⟨rfl, _⟩ | ⟨g, cap, cur, rfl, hb, hg, _⟩
  · exact .inl rfl
  · right
    rcases h'.2 with ⟨rfl, _⟩ | ⟨g', cap', cur', rfl, hb', hg', _⟩
    · simp [Value.ownBlock]
    · intro he
      obtain rfl : g = g' := by simpa [Value.ownBlock] using he
      rw [hg] at hg'
      injection hg' with h1
      injection h1 with _ h2
      exact hne h2
theorem ownsRow_blk {w : World} {base : Nat} {e t : TypeId} {size n g : Nat} {v : Value} {xs : List Value} {cs : Array Value} (h : w.ownsRow base e size v n xs) (hB : Blk w g t cs) (hne : e ≠ t) : v.ownBlock = none ∨ v.ownBlock ≠ some g := by
  rcases h.2 with ⟨rfl, _⟩ | ⟨g', cap, cur, rfl, hb, hg, _⟩
  · exact .inl rfl
  · right
    intro he
    obtain rfl : g' = g := by simpa [Value.ownBlock] using he
    unfold Blk at hB
    rw [hg] at hB
    injection hB with h1
    injection h1 with _ h2
    exact hne h2
theorem ownsRow_map {w : World} {base : Nat} {e : TypeId} {size n b m : Nat} {v : Value} {xs : List Value} {H : Type} {P : Program} {k : TypeId} {R : Value → Option (DataW H × List MemPlace)} {D : DataW H} (h : w.ownsRow base e size v n xs) (hm : w.ownsMap P k R b m D) : some b ≠ v.ownBlock := by
  rcases h.2 with ⟨rfl, _⟩ | ⟨g', cap, cur, rfl, hb, hg, _⟩
  · simp [Value.ownBlock]
  · intro he
    obtain rfl : b = g' := by simpa [Value.ownBlock] using he
    obtain ⟨es, clock, hb, _⟩ := hm
    rw [hg] at hb
    cases hb
theorem grownBy_set (w : World) (g i : Nat) (u : Value) : w.grownBy (w.setCell ⟨g, i, none⟩ u) (some g) :=
  ⟨rfl, rfl, rfl, by simp [World.setCell], fun k _ hne => Below.heap_setCell w ⟨g, i, none⟩ u k (fun e => hne (by rw [e]))⟩
theorem Proofs.take {w : World} {a : Option Addr} {m cap : Nat} {l : List Prf} (h : Proofs w (.slice a m cap) l) (n : Nat) (hn : n ≤ l.length) : Proofs w (.slice a n cap) (l.take n) := by
  obtain ⟨a', cap', e, h1, h2, h3⟩ := h
  injection e with e1 e2 e3
  subst e1; subst e3
  have hl : (l.take n).length = n := by simp; omega
  refine ⟨a, cap, by rw [hl], by omega, h2, fun hp => ?_⟩
  obtain ⟨b, off, ha, hb, hc⟩ := h3 (by omega)
  refine ⟨b, off, ha, hb, fun j hj => ?_⟩
  have e2 : (l.take n).getD j .zero = l.getD j .zero := by simp [List.getD, show j < n by omega]
  rw [e2]
  exact hc j (by omega)
end Go.Proofs.YthomeenmcajmdaaGreatDoor
namespace Go.Proofs.YthomeenmcajmdaaGreatDoor
open Go.RowKit
def WRow (w : World) (g off : Nat) (xs : List Int) : Prop :=
  g < w.heap.size ∧ ∀ j, j < xs.length → w.cell? ⟨g, off + j, none⟩ = some (.int .u64 (xs.getD j 0)) ∧ w.frozen? ⟨g, off + j, none⟩ = false
theorem WRow.ext {w w' : World} {g off : Nat} {xs : List Int} (h : WRow w g off xs) (he : Ext w w') : WRow w' g off xs :=
  ⟨Nat.lt_of_lt_of_le h.1 he.size, fun j hj => ⟨(he.cells _ _ h.1).trans (h.2 j hj).1, by rw [Below.frozen (p := ⟨g, off + j, none⟩) he h.1]; exact (h.2 j hj).2⟩⟩
theorem set_get (xs : List Int) (i j : Nat) (x : Int) (hi : i < xs.length) : (xs.set i x).getD j 0 = if i = j then x else xs.getD j 0 := by
  simp only [List.getD, List.getElem?_set]
  split
  · rename_i e
    subst e
    simp
  · rfl
theorem WRow.set_ {w : World} {g off : Nat} {xs : List Int} (h : WRow w g off xs) {i : Nat} (hi : i < xs.length) (x : Int) : WRow (w.setCell ⟨g, off + i, none⟩ (.int .u64 x)) g off (xs.set i x) := by
  refine ⟨by simpa [World.setCell] using h.1, fun j hj => ?_⟩
  rw [List.length_set] at hj
  rw [World.frozen?_setCell, set_get xs i j x hi]
  refine ⟨?_, (h.2 j hj).2⟩
  split
  · rename_i e
    subst e
    exact World.cell?_setCell_same _ _ _ (h.2 i hi).1
  · rename_i e
    refine (World.cell?_setCell_other _ _ _ _ (by intro e'; injection e' with _ e2; omega)).trans (h.2 j hj).1
theorem WRow.ints {w : World} {g off cap : Nat} {xs : List Int} (h : WRow w g off xs) (h1 : xs.length ≤ cap) (h2 : cap ≤ 9223372036854775807) : Ints .u64 w (.slice (some ⟨g, off, none⟩) xs.length cap) xs :=
  Ints.mk h1 h2 h.1 fun j hj => (h.2 j hj).1
theorem WRow.ints' {w : World} {g off cap n : Nat} {xs : List Int} (h : WRow w g off xs) (hn : xs.length = n) (h1 : n ≤ cap) (h2 : cap ≤ 9223372036854775807) : Ints .u64 w (.slice (some ⟨g, off, none⟩) n cap) xs := by
  subst hn; exact h.ints h1 h2
theorem WRow.of_blk {w : World} {g : Nat} {t : TypeId} {xs : List Int} {rest : List Value} (h : Blk w g t ((xs.map (Value.int .u64)) ++ rest).toArray) : WRow w g 0 xs :=
  ⟨h.lt, fun j hj => by
    rw [Nat.zero_add, h.cell j]
    exact ⟨by simp [List.getElem?_append, hj, List.getD], h.frozen j⟩⟩
theorem WRow.made {w : World} {t : TypeId} {g n : Nat} (hg : g = w.heap.size) : WRow (w.alloc (.cells (madeCells #[Value.int .u64 0] n) t)) g 0 (List.replicate n 0) := by
  subst hg
  refine WRow.of_blk (t := t) (rest := []) ?_
  have e : (madeCells #[Value.int .u64 0] n) = ((List.replicate n 0).map (Value.int .u64) ++ []).toArray := by
    simp [madeCells]
    apply Array.ext
    · simp
    · intro i h1 h2
      simp [Nat.mod_one]
  rw [← e]
  exact Blk.new w t _
def RetP (p : Int) (f : Ser p) (w : World) (e : Ending) (w' : World) : Prop := ∃ v zs, e = .returned v ∧ Ints .u64 w' v zs ∧ Pol p zs ∧ pol p zs = f ∧ Ext w w'
theorem replicate_get (n j : Nat) : (List.replicate n (0 : Int)).getD j 0 = 0 := by
  simp only [List.getD, List.getElem?_replicate]
  split <;> rfl
theorem pad_get (xs : List Int) (m j : Nat) : (xs ++ List.replicate m 0).getD j 0 = xs.getD j 0 := by
  rcases Nat.lt_or_ge j xs.length with h | h
  · simp [List.getD, List.getElem?_append, h]
  · rw [getD_over h]
    simp only [List.getD, List.getElem?_append, if_neg (Nat.not_lt.2 h), List.getElem?_replicate]
    split <;> rfl
end Go.Proofs.YthomeenmcajmdaaGreatDoor
namespace Go.Proofs.YthomeenmcajmdaaGreatDoor
open Go.RowKit Go.Maps
theorem info_u64p : (Tryz.prog.info? 22).map (fun i => (i.zero, i.size, i.bytes)) = some (some (.int .u64 0), 1, 8) := by kernel_rfl
theorem WRow.of_owns {w : World} {base n : Nat} {v : Value} {xs : List Int} (h : w.ownsRow base 22 1 v n (xs.map (Value.int .u64))) :
    ∃ a cap, v = .slice a n cap ∧ n ≤ cap ∧ cap ≤ 9223372036854775807 ∧ xs.length = n ∧ (0 < n → ∃ g, a = some ⟨g, 0, none⟩ ∧ base ≤ g ∧ WRow w g 0 xs) := by
  have hl : xs.length = n := by have := h.1; simpa using this
  have h0 := h
  obtain ⟨_, ⟨rfl, h1⟩ | ⟨g, cap, cur, rfl, hg, hb, hc1, hc2, hs, ht⟩⟩ := h
  · obtain rfl : n = 0 := by simpa using h1
    obtain rfl : xs = [] := List.eq_nil_of_length_eq_zero hl
    exact ⟨none, 0, rfl, by omega, by omega, rfl, fun h => by omega⟩
  · refine ⟨_, cap, rfl, hc1, by simpa [maxLen] using hc2, hl, fun hp => ⟨g, rfl, hg, ?_, fun j hj => ?_⟩⟩
    · exact Blk.lt (t := 22) (cs := cur) hb
    · rw [Nat.zero_add]
      refine ⟨?_, Blk.frozen (t := 22) (cs := cur) hb j⟩
      rw [h0.cellAt j (by omega)]
      simp [hj, List.getD]
theorem append_nil {P : Program} (w : World) (base : Nat) (t ty e : TypeId) (i : TypeInfo) (size k : Nat) (ht : P.underlying t = some (.slice e)) (hi : P.info? e = some i) (v : Value) (n : Nat) (xs : List Value) (hown : w.ownsRow base e size v n xs) :
    (Builtin.append_ #[t, t] ty #[v, .slice none 0 k]).run P w = .ok v w := by
  rcases hown.2 with ⟨rfl, rfl⟩ | ⟨g, cap, cur, rfl, _, _, h, _⟩
  · simp [Builtin.append_, run_underlying ht, sizeOf, typeInfo, hi, Builtin.lenOf, Builtin.firstCells]
  · simp [Builtin.append_, run_underlying ht, sizeOf, typeInfo, hi, Builtin.lenOf, Builtin.firstCells, h, storeCells]
theorem wpList_append_nil {P : Program} {ops : Array Oper} {rest : List Oper} {o : Oper} {a : Act} {Q : Exit → Act → World → Prop} {w : World} (hgd : o.guard = none) (s x : Operand) (t : TypeId)
    (ho : o.op = .call { callee := .builtin .append, args := #[s, x], argTypes := #[t, t] }) (base : Nat) (e : TypeId) (i : TypeInfo) (size k : Nat) (ht : P.underlying t = some (.slice e)) (hi : P.info? e = some i)
    (v : Value) (n : Nat) (xs : List Value) (hs : a.eval s = v) (hown : w.ownsRow base e size v n xs) (hx : a.eval x = .slice none 0 k) (h : wpList P ops Q rest (a.put o.dst v) w) : wpList P ops Q (o :: rest) a w :=
  wpList_plain hgd fun _ hK => by
    have hr := append_nil (P := P) w base t o.type e i size k ht hi v n xs hown
    unfold Oper.wp execOp
    simp only [ho, resolve, invoke, builtin, Sem.run_bind, Sem.run_pure, Result.andThen_ok, List.map_toArray, List.map_cons, List.map_nil, hs, hx, hr]
    exact hK _ _ h
theorem grown_refl (w : World) (r : Option Nat) : w.grownBy w r := ⟨rfl, rfl, rfl, Nat.le_refl _, fun _ _ _ => rfl⟩
theorem wpList_append_ints {P : Program} {ops : Array Oper} {rest : List Oper} {o : Oper} {a : Act} {Q : Exit → Act → World → Prop} {w : World} (hgd : o.guard = none) (s x : Operand) (t : TypeId)
    (ho : o.op = .call { callee := .builtin .append, args := #[s, x], argTypes := #[t, t] }) (base : Nat) (e : TypeId) (i : TypeInfo) (z : Value) (bytes : Nat) (ht : P.underlying t = some (.slice e)) (hi : P.info? e = some i)
    (hz : i.zero = some z) (hsize : i.size = 1) (hby : i.bytes = bytes) (hzs : z.cells.size = 1)
    (v : Value) (n : Nat) (xs : List Value) (hs : a.eval s = v) (hown : w.ownsRow base e 1 v n xs) (u : Value) (ss : List Int) (hx : a.eval x = u) (hI : Ints .u64 w u ss)
    (h63 : n + ss.length ≤ maxLen) (hbytes : (n + ss.length) * bytes ≤ 140737488355328) (hbase : base ≤ w.heap.size)
    (h : ∀ v' w', w'.ownsRow base e 1 v' (n + ss.length) (xs ++ ss.map (Value.int .u64)) → w.grownBy w' v.ownBlock → wpList P ops Q rest (a.put o.dst v') w') : wpList P ops Q (o :: rest) a w := by
  obtain ⟨ad, cap, rfl, k1, k2, k3⟩ := hI
  cases ad with
  | none =>
    have h0 : ss.length = 0 := by
      rcases Nat.eq_zero_or_pos ss.length with h | h
      · exact h
      · obtain ⟨b, off, e, _⟩ := k3 h; cases e
    obtain rfl : ss = [] := List.eq_nil_of_length_eq_zero h0
    refine wpList_append_nil hgd s x t ho base e i 1 cap ht hi v n xs hs hown hx ?_
    have := h v w (by simpa using hown) (grown_refl _ _)
    exact this
  | some ad =>
    refine wpList_append_own w hgd s x t ho base e i z 1 bytes ht hi hz hsize hby hzs (by omega) v n xs hs hown ad ss.length cap (ss.map (Value.int .u64)) hx (by simp) (fun j y hj => ?_) (fun y hy => ?_) h63 hbytes hbase fun v' w' h2 h3 _ => h v' w' h2 h3
    · have hjl : j < ss.length := by
        rcases Nat.lt_or_ge j ss.length with h | h
        · exact h
        · rw [List.getElem?_eq_none (by simpa using h)] at hj; cases hj
      obtain ⟨b, off, e, hb, hcell⟩ := k3 (by omega)
      injection e with e; subst e
      rw [show ((⟨b, off, none⟩ : Addr).add j) = ⟨b, off + j, none⟩ from Go.WideShapes.add_plain _ _ _, hcell j hjl]
      rw [List.getElem?_map, List.getElem?_eq_getElem hjl] at hj
      simp only [Option.map_some, Option.some.injEq] at hj
      rw [← hj]
      simp [List.getD, List.getElem?_eq_getElem hjl]
    · obtain ⟨q, _, rfl⟩ := List.mem_map.1 hy
      rfl
end Go.Proofs.YthomeenmcajmdaaGreatDoor
namespace Go.Proofs.YthomeenmcajmdaaGreatDoor
open Go.RowKit
def matV (r c : Int) (v : Value) : Value := .agg #[.int .i64 r, .int .i64 c, v]
def matB (p r c : Int) (xs : List Int) : Bool := decide (1 ≤ r ∧ r ≤ 64) && (decide (1 ≤ c ∧ c ≤ 64) && (decide ((xs.length : Int) = r * c) && hasB p xs))
theorem matB_iff {p r c : Int} {xs : List Int} (hx : U64s xs) : matB p r c xs = true ↔ rightB p = true ∧ Rng p xs ∧ ∃ m n : Nat, r = m ∧ c = n ∧ 1 ≤ m ∧ m ≤ 64 ∧ 1 ≤ n ∧ n ≤ 64 ∧ xs.length = m * n := by
  unfold matB
  simp only [Bool.and_eq_true, decide_eq_true_eq]
  constructor
  · rintro ⟨h1, h2, h3, h4⟩
    obtain ⟨h5, h6⟩ := hasB_true h4
    obtain ⟨m, rfl⟩ := Int.eq_ofNat_of_zero_le (show 0 ≤ r by omega)
    obtain ⟨n, rfl⟩ := Int.eq_ofNat_of_zero_le (show 0 ≤ c by omega)
    exact ⟨h5, fun x hx' => ⟨(hx x hx').1, h6 x hx'⟩, m, n, rfl, rfl, by omega, by omega, by omega, by omega, by exact_mod_cast h3⟩
  · rintro ⟨h1, h2, m, n, rfl, rfl, h3, h4, h5, h6, h7⟩
    exact ⟨by omega, by omega, by rw [h7]; push_cast; rfl, h2.has h1⟩
set_option maxHeartbeats 400000 in
theorem rmSame (r c r' c' : Int) (v v' : Value) (xs ys : List Int) (w : World) (hv : Ints .u64 w v xs) (hv' : Ints .u64 w v' ys) :
    Calls Tryz.prog 41 #[matV r c v, matV r' c' v'] w (Ret (.bool (decide (r = r' ∧ c = c' ∧ xs = ys))) w) := by
  have hs := fun (W : World) (hW : Ext w W) => same_any v v' xs ys W (hv.ext hW) (hv'.ext hW)
  have HS := hid hs
  clear hs hv hv'
  unfold matV
  by_cases g1 : r = r'
  · by_cases g2 : c = c'
    · subst g1
      subst g2
      go_enter Tryz.func41, Tryz.ntmps41
      go_wp2_with fail
      refine (HS.out _ (by repeat (first | exact Ext.refl _ | assumption | refine Ext.drew ?_ | refine Ext.drewN ?_ _ | refine Ext.alloc ?_ _ | refine Ext.trans ?_ (by assumption)))).mono ?_
      rintro _ w1 ⟨rfl, x1⟩
      go_wp2_with fail
      go_ret
      exact ⟨ret_bool (by simp), (by repeat (first | exact Ext.refl _ | assumption | refine Ext.drew ?_ | refine Ext.drewN ?_ _ | refine Ext.alloc ?_ _ | refine Ext.trans ?_ (by assumption)))⟩
    · have b1 : (c == c') = false := by simp [g2]
      subst g1
      have e : decide (r = r ∧ c = c' ∧ xs = ys) = false := decide_eq_false fun h => g2 h.2.1
      rw [e]
      clear g2 e
      go_enter Tryz.func41, Tryz.ntmps41
      go_wp2_with fail
      go_ret
      exact ⟨rfl, (by repeat (first | exact Ext.refl _ | assumption | refine Ext.drew ?_ | refine Ext.drewN ?_ _ | refine Ext.alloc ?_ _ | refine Ext.trans ?_ (by assumption)))⟩
  · have b1 : (r == r') = false := by simp [g1]
    have e : decide (r = r' ∧ c = c' ∧ xs = ys) = false := decide_eq_false fun h => g1 h.1
    rw [e]
    clear g1 e
    go_enter Tryz.func41, Tryz.ntmps41
    go_wp2_with fail
    go_ret
    exact ⟨rfl, (by repeat (first | exact Ext.refl _ | assumption | refine Ext.drew ?_ | refine Ext.drewN ?_ _ | refine Ext.alloc ?_ _ | refine Ext.trans ?_ (by assumption)))⟩
end Go.Proofs.YthomeenmcajmdaaGreatDoor
