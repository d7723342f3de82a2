import Derived.Test.YthomeenmcajmdaaGreatDoorBun19
import Derived.Test.YthomeenmcajmdaaGreatDoorBun04
namespace Go.Proofs.YthomeenmcajmdaaGreatDoor
open Go.RowKit Go.Maps
def findZ (p : List Int) (n : Int) : Int := match p.findIdx? fun y => y == n with | some i => (i : Int) | none => -1
theorem findZ_some {p : List Int} {n : Int} {k : Nat} (hk : k < p.length) (h : p.getD k 0 = n) (hl : ∀ j, j < k → p.getD j 0 ≠ n) : findZ p n = k := by
  have e : p.findIdx? (fun y => y == n) = some k := by
    rw [List.findIdx?_eq_some_iff_getElem]
    refine ⟨hk, by simpa [List.getD, hk] using h, fun j hj => ?_⟩
    have := hl j hj
    simpa [List.getD, show j < p.length by omega] using this
  unfold findZ
  rw [e]
theorem findZ_mem {p : List Int} {n : Int} : 0 ≤ findZ p n ↔ n ∈ p := by
  unfold findZ
  cases e : p.findIdx? fun y => y == n with
  | none =>
    rw [List.findIdx?_eq_none_iff] at e
    constructor
    · intro h; simp at h
    · intro h; have := e n h; simp at this
  | some i =>
    rw [List.findIdx?_eq_some_iff_getElem] at e
    obtain ⟨hi, h1, _⟩ := e
    constructor
    · intro _
      have : p[i] = n := by simpa using h1
      rw [← this]; exact List.getElem_mem hi
    · intro _; simp
theorem Ord.findZ {n : Nat} {p : List Int} (h : Ord n p) {k : Nat} (hk : k < n) : findZ p k = atL p k := by
  obtain ⟨i, hi, e⟩ := h.find hk
  rw [findZ_some (k := i) (by rw [h.len]; exact hi) e fun j hj e2 => by
    have := h.inj (by omega) hi (e2.trans e.symm); omega, ← e, h.at_ hi]
def ordB (p : List Int) : Bool := decide (0 < p.length) && (decide (p.length ≤ 64) && (List.range p.length).all fun k => decide (0 ≤ Go.Proofs.YthomeenmcajmdaaGreatDoor.findZ p k))
theorem ordB_iff {p : List Int} : ordB p = true ↔ 0 < p.length ∧ p.length ≤ 64 ∧ Ord p.length p := by
  unfold ordB
  simp only [Bool.and_eq_true, decide_eq_true_eq, List.all_eq_true, List.mem_range]
  exact ⟨fun ⟨h1, h2, h3⟩ => ⟨h1, h2, rfl, fun k hk => findZ_mem.1 (h3 k hk)⟩, fun ⟨h1, h2, h3⟩ => ⟨h1, h2, fun k hk => findZ_mem.2 (h3.has k hk)⟩⟩
theorem Ord.b {n : Nat} {p : List Int} (h : Ord n p) (h0 : 0 < n) (h1 : n ≤ 64) : ordB p = true := ordB_iff.2 ⟨by rw [h.len]; exact h0, by rw [h.len]; exact h1, h.len.symm ▸ h⟩
theorem info_i64p : (Tryz.prog.info? 3).map (fun i => (i.zero, i.size, i.bytes)) = some (some (.int .i64 0), 1, 8) := by kernel_rfl
theorem owns_ints {w : World} {base n : Nat} {e : TypeId} {k : IntKind} {v : Value} {xs : List Int} (h : w.ownsRow base e 1 v n (xs.map (Value.int k))) : ∃ a cap, v = .slice a n cap ∧ xs.length = n ∧ Ints k w v xs := by
  have hl : xs.length = n := by have := h.1; simpa using this
  have h0 := h
  obtain ⟨_, ⟨rfl, h1⟩ | ⟨g, cap, cur, rfl, hg, hb, hc1, hc2, hs, ht⟩⟩ := h
  · obtain rfl : n = 0 := by simpa using h1
    obtain rfl : xs = [] := List.eq_nil_of_length_eq_zero hl
    exact ⟨none, 0, rfl, rfl, Ints.nil⟩
  · refine ⟨_, cap, rfl, hl, ⟨some ⟨g, 0, none⟩, cap, by rw [hl], by omega, by unfold maxLen at hc2; omega, fun _ => ⟨g, 0, rfl, Blk.lt (t := e) (cs := cur) hb, fun j hj => ?_⟩⟩⟩
    rw [Nat.zero_add, h0.cellAt j (by omega)]
    simp [hj, List.getD]
def RetI (l : List Int) (w : World) (e : Ending) (w' : World) : Prop := ∃ v, e = .returned v ∧ Ints .i64 w' v l ∧ Ext w w'
end Go.Proofs.YthomeenmcajmdaaGreatDoor
