/- What the texts Pm2, Pm3 show, in one text. -/
import Derived.Test.YtmcadgcfdlonoaaBun14
import Derived.Test.YtmcadgcfdlonoaaBun06
/- Package perm: an order done to things of any kind; Then, Do. -/
namespace Go.Proofs.Ytmcadgcfdlonoaa
open Go.RowKit Go.Maps

/-- in the world w the slice u reads as the values us -/
def Vals (w : World) (u : Value) (us : List Value) : Prop :=
  ∃ (a : Option Addr) (cap : Nat), u = .slice a us.length cap ∧ us.length ≤ cap ∧ cap ≤ 9223372036854775807 ∧
    (0 < us.length → ∃ b off, a = some ⟨b, off, none⟩ ∧ b < w.heap.size ∧ ∀ j x, us[j]? = some x → w.cell? ⟨b, off + j, none⟩ = some x)
theorem Vals.ext {w w' : World} {u : Value} {us : List Value} (h : Vals w u us) (he : Ext w w') : Vals w' u us := by
  obtain ⟨a, cap, h1, h2, h3, h4⟩ := h
  refine ⟨a, cap, h1, h2, h3, fun hp => ?_⟩
  obtain ⟨b, off, ha, hb, hc⟩ := h4 hp
  exact ⟨b, off, ha, Nat.lt_of_lt_of_le hb he.size, fun j x hj => (he.cells _ _ hb).trans (hc j x hj)⟩
theorem getD_some {α : Type} {l : List α} {j : Nat} {x : α} (d : α) (h : l[j]? = some x) : l.getD j d = x := by rw [List.getD, h]; rfl
theorem Ints.vals {k : IntKind} {w : World} {v : Value} {xs : List Int} (h : Ints k w v xs) : Vals w v (xs.map (Value.int k)) := by
  obtain ⟨a, cap, h1, h2, h3, h4⟩ := h
  refine ⟨a, cap, by rw [h1, List.length_map], by rw [List.length_map]; exact h2, h3, fun hp => ?_⟩
  rw [List.length_map] at hp
  obtain ⟨b, off, ha, hb, hc⟩ := h4 hp
  refine ⟨b, off, ha, hb, fun j x hj => ?_⟩
  rw [List.getElem?_map] at hj
  obtain ⟨y, hy, rfl⟩ := Option.map_eq_some_iff.1 hj
  rw [hc j (List.getElem?_eq_some_iff.1 hy).1, getD_some 0 hy]
theorem Vals.ints {k : IntKind} {w : World} {v : Value} {xs : List Int} (h : Vals w v (xs.map (Value.int k))) : Ints k w v xs := by
  obtain ⟨a, cap, h1, h2, h3, h4⟩ := h
  rw [List.length_map] at h1 h2 h4
  refine ⟨a, cap, h1, h2, h3, fun hp => ?_⟩
  obtain ⟨b, off, ha, hb, hc⟩ := h4 hp
  refine ⟨b, off, ha, hb, fun j hj => hc j _ ?_⟩
  simp [List.getD, hj]
/-- what an order does to things of any kind -/
def doG {α : Type} (d : α) (p : List Int) (x : List α) : List α := p.map fun k => x.getD k.toNat d
theorem doG_len {α : Type} (d : α) (p : List Int) (x : List α) : (doG d p x).length = p.length := by simp [doG]
theorem doG_get {α : Type} {d : α} {p : List Int} {x : List α} {k : Nat} (hk : k < p.length) : (doG d p x)[k]? = some (x.getD (p.getD k 0).toNat d) := by
  simp [doG, List.getD, hk]
/-- a block whose first so many cells are known -/
theorem Blk.vals {w : World} {g n : Nat} {t : TypeId} {cs : Array Value} {us : List Value} (h : Blk w g t cs) (hl : us.length = n) (hn : n ≤ 9223372036854775807) (hc : ∀ j, j < n → cs[j]? = us[j]?) : Vals w (.slice (some ⟨g, 0, none⟩) n n) us := by
  subst hl
  refine ⟨_, _, rfl, Nat.le_refl _, hn, fun _ => ⟨g, 0, rfl, h.lt, fun j x hj => ?_⟩⟩
  rw [Nat.zero_add, h.cell j, hc j (List.getElem?_eq_some_iff.1 hj).1]; exact hj
/-- things that a call answers, or that something isn't right -/
def RetVals (ok : Bool) (us : List Value) (w : World) (e : Ending) (w' : World) : Prop :=
  ∃ (v : Value) (l' : List Value) (ee : Int), e = .returned (.tuple #[v, .int .i64 ee]) ∧ Vals w' v l' ∧ ee = (if ok = true then 0 else 1) ∧ l' = (if ok = true then us else []) ∧ Ext w w'
theorem Vals.nil {w : World} : Vals w (.slice none 0 0) [] := ⟨none, 0, rfl, by simp, by omega, by simp⟩
theorem make_rows {P : Program} (t e : TypeId) (bytes : Nat) (hb : bytes ≤ 24) (ht : P.underlying t = some (.slice e)) (hi : (P.info? e).map (fun i => (i.zero, i.size, i.bytes)) = some (some (.slice none 0 0), 1, bytes))
    (n c : Nat) (hnc : n ≤ c) (hc : c ≤ 1000000) (w : World) :
    (Instr.makeSlice t (.int .i64 n) (.int .i64 c)).run P w = .ok (.slice (some ⟨w.heap.size, 0, none⟩) n c) (w.alloc (.cells (madeCells #[Value.slice none 0 0] c) e)) := by
  obtain ⟨i, h1, h2, h3, h4⟩ := info_parts hi
  have hbc : i.bytes * c ≤ 24 * c := Nat.mul_le_mul_right _ (by omega)
  have hbi : (i.bytes : Int) * (c : Int) ≤ 281474976710656 := by rw [← Int.natCast_mul]; omega
  have := run_make (P := P) w t e i _ ht h1 h2 .i64 .i64 n c (by omega) (by omega) hbi (by omega)
  rw [this, h3]
  simp [Value.cells]
/-- a slice, as a value -/
def slV (x : Option Addr × Nat × Nat) : Value := .slice x.1 x.2.1 x.2.2

theorem thenL_doG (p q : List Int) : doG 0 q p = thenL p q := rfl
theorem doL_doG (p x : List Int) : doG 0 p x = doL p x := rfl
end Go.Proofs.Ytmcadgcfdlonoaa
/- Package perm: what undoes an order, and its sign; what an order answers, if it is one. -/
namespace Go.Proofs.Ytmcadgcfdlonoaa
open Go.RowKit Go.Maps

/-- a sign, of so many pairs -/
def sgnN (m : Nat) : Int := if m % 2 = 0 then 1 else -1
theorem sgnN_succ (m : Nat) : sgnN (m + 1) = -sgnN m := by
  unfold sgnN
  rcases Nat.mod_two_eq_zero_or_one m with h | h
  · rw [if_neg (by omega), if_pos h]
  · rw [if_pos (by omega), if_neg (by omega)]; rfl
theorem sgnN_or (m : Nat) : -1 ≤ sgnN m ∧ sgnN m ≤ 1 := by unfold sgnN; split <;> simp

end Go.Proofs.Ytmcadgcfdlonoaa
