/- What the texts RetG, UsL show, in one text. -/
import Derived.Test.YtjdbkbbhjiemdaaKit
import Derived.Test.YtjdbkbbhjiemdaaMx1
import Derived.Test.YtjdbkbbhjiemdaaCupB2
/- What calls answer in one form, whether what they were given is right or not: numbers, matrices, thin ones, orders. -/
namespace Go.Proofs.Ytjdbkbbhjiemdaa
open Go.RowKit

/-- numbers, or that something isn't right -/
def RetG (ok : Bool) (l : List Int) (w : World) (e : Ending) (w' : World) : Prop :=
  ∃ (v : Value) (l' : List Int) (ee : Int), e = .returned (.tuple #[v, .int .i64 ee]) ∧ Ints .u64 w' v l' ∧ ee = (if ok = true then 0 else 1) ∧ l' = (if ok = true then l else []) ∧ Ext w w'
/-- a matrix, or that something isn't right -/
def RetGM (ok : Bool) (r c : Int) (l : List Int) (w : World) (e : Ending) (w' : World) : Prop :=
  ∃ (rx cx : Int) (v : Value) (l' : List Int) (ee : Int), e = .returned (.tuple #[.agg #[.int .i64 rx, .int .i64 cx, v], .int .i64 ee]) ∧ Ints .u64 w' v l' ∧ ee = (if ok = true then 0 else 1) ∧ l' = (if ok = true then l else []) ∧ (ok = true → rx = r ∧ cx = c) ∧ Ext w w'
/-- a thin one, or that something isn't right -/
def RetGS (ok : Bool) (r c : Int) (bs cs vs : List Int) (w : World) (e : Ending) (w' : World) : Prop :=
  ∃ (rx cx : Int) (vb vc vv : Value) (lb lc lv : List Int) (ee : Int), e = .returned (.tuple #[.agg #[.int .i64 rx, .int .i64 cx, vb, vc, vv], .int .i64 ee]) ∧ Ints .i64 w' vb lb ∧ Ints .i64 w' vc lc ∧ Ints .u64 w' vv lv ∧ ee = (if ok = true then 0 else 1) ∧ lv = (if ok = true then vs else []) ∧ (ok = true → rx = r ∧ cx = c ∧ lb = bs ∧ lc = cs) ∧ Ext w w'
/-- whole numbers, or that something isn't right -/
def RetGI (ok : Bool) (l : List Int) (w : World) (e : Ending) (w' : World) : Prop :=
  ∃ (v : Value) (l' : List Int) (ee : Int), e = .returned (.tuple #[v, .int .i64 ee]) ∧ Ints .i64 w' v l' ∧ ee = (if ok = true then 0 else 1) ∧ l' = (if ok = true then l else []) ∧ Ext w w'
/-- whole numbers, and no error -/
def RetVI (l : List Int) (w : World) (e : Ending) (w' : World) : Prop := ∃ v, e = .returned (.tuple #[v, .int .i64 0]) ∧ Ints .i64 w' v l ∧ Ext w w'
/-- numbers, and no error -/
def RetVU (l : List Int) (w : World) (e : Ending) (w' : World) : Prop := ∃ v, e = .returned (.tuple #[v, .int .i64 0]) ∧ Ints .u64 w' v l ∧ Ext w w'
theorem RetGI.yes {l : List Int} {w : World} {e : Ending} {w' : World} (h : RetGI true l w e w') : RetVI l w e w' := by
  obtain ⟨v, l', ee, h1, h2, h3, h4, h5⟩ := h
  simp only [if_true] at h3 h4
  subst h3; subst h4
  exact ⟨v, h1, h2, h5⟩
theorem RetG.yes {l : List Int} {w : World} {e : Ending} {w' : World} (h : RetG true l w e w') : RetVU l w e w' := by
  obtain ⟨v, l', ee, h1, h2, h3, h4, h5⟩ := h
  simp only [if_true] at h3 h4
  subst h3; subst h4
  exact ⟨v, h1, h2, h5⟩
/-- whole numbers of 64 bits -/
def I64s (xs : List Int) : Prop := ∀ x ∈ xs, -9223372036854775808 ≤ x ∧ x ≤ 9223372036854775807
end Go.Proofs.Ytjdbkbbhjiemdaa
/- Rows of rows of numbers; a matrix's parts in memory. -/
namespace Go.Proofs.Ytjdbkbbhjiemdaa
open Go.RowKit Go.Maps

/-- in the world w the slice v reads as rows of numbers -/
def UsL (w : World) (v : Value) (ls : List (List Int)) : Prop :=
  ∃ (a : Option Addr) (cap : Nat), v = .slice a ls.length cap ∧ ls.length ≤ cap ∧ cap ≤ 9223372036854775807 ∧
    (0 < ls.length → ∃ b off, a = some ⟨b, off, none⟩ ∧ b < w.heap.size ∧ ∀ j, j < ls.length → ∃ u, w.cell? ⟨b, off + j, none⟩ = some u ∧ Ints .u64 w u (ls.getD j []))
theorem UsL.ext {w w' : World} {v : Value} {ls : List (List Int)} (h : UsL w v ls) (he : Ext w w') : UsL w' v ls := by
  obtain ⟨a, cap, h1, h2, h3, h4⟩ := h
  refine ⟨a, cap, h1, h2, h3, fun hp => ?_⟩
  obtain ⟨b, off, ha, hb, hc⟩ := h4 hp
  refine ⟨b, off, ha, Nat.lt_of_lt_of_le hb he.size, fun j hj => ?_⟩
  obtain ⟨u, c1, c2⟩ := hc j hj
  exact ⟨u, (he.cells _ _ hb).trans c1, c2.ext he⟩
theorem UsL.nil {w : World} : UsL w (.slice none 0 0) [] := ⟨none, 0, rfl, by simp, by omega, by simp⟩
theorem Blk.at4 {w : World} {g : Nat} {t : TypeId} {a b c d : Value} (h : Blk w g t #[a, b, c, d]) : w.cell? ⟨g, 0, none⟩ = some a ∧ w.cell? ⟨g, 1, none⟩ = some b ∧ w.cell? ⟨g, 2, none⟩ = some c ∧ w.cell? ⟨g, 3, none⟩ = some d :=
  ⟨h.cell 0, h.cell 1, h.cell 2, h.cell 3⟩
/-- a matrix's parts, and no error -/
def RetCup (rows cols : List Int) (C U : List (List Int)) (w : World) (e : Ending) (w' : World) : Prop :=
  ∃ rv cv Cv Uv, e = .returned (.tuple #[.agg #[rv, cv, Cv, Uv], .int .i64 0]) ∧ Ints .i64 w' rv rows ∧ Ints .i64 w' cv cols ∧ UsL w' Cv C ∧ UsL w' Uv U ∧ Ext w w'
/-- parts that may make a matrix of m rows and n columns -/
structure CupOk (p : Int) (m n : Nat) (C U : List (List Int)) : Prop where
  hp : rightB p = true
  hm : 1 ≤ m ∧ m ≤ 64
  hn : 1 ≤ n ∧ n ≤ 64
  lc : C.length = m
  c : ∀ l ∈ C, l.length = U.length ∧ Rng p l
  u : ∀ l ∈ U, l.length = n ∧ Rng p l
  hu : U.length ≤ 64
/-- a matrix's profile, as whole numbers -/
noncomputable def profZ (p : Int) (m n : Nat) (xs : List Int) : List Int := (takeL p m n xs).rows.map fun k : Nat => (k : Int)
theorem profZ_len {p : Int} {m n : Nat} {xs : List Int} (ok : MatOk p m n xs) (hf : Fld p) : (profZ p m n xs).length = (takeL p m n xs).U.length := by
  have := (takeL_ok (m := m) (n := n) (rightB_true ok.hp).1 hf ok.hx).lr
  simp [profZ, this]
theorem colsZ_len {p : Int} {m n : Nat} {xs : List Int} (ok : MatOk p m n xs) (hf : Fld p) : (colsZ (takeL p m n xs)).length = (takeL p m n xs).U.length := by
  have := (takeL_ok (m := m) (n := n) (rightB_true ok.hp).1 hf ok.hx).lk
  simp [colsZ, this]
theorem Rng.pad {p : Int} {l : List Int} (h : Rng p l) (hp : 2 ≤ p) (r : Nat) : Rng p (padL r l) := rng_app h fun x hx => by
  rw [List.eq_of_mem_replicate hx]; omega
theorem take_parts {p : Int} {m n : Nat} {xs : List Int} (ok : MatOk p m n xs) (hf : Fld p) : CupOk p m n ((takeL p m n xs).C.map (padL (takeL p m n xs).U.length)) (takeL p m n xs).U := by
  have hp := (rightB_true ok.hp).1
  have h := takeL_ok (m := m) (n := n) hp hf ok.hx
  refine ⟨ok.hp, ok.hm, ok.hn, by rw [List.length_map, h.lc], fun l hl => ?_, fun l hl => ?_, Nat.le_trans h.le ok.hm.2⟩
  · obtain ⟨k, hk, rfl⟩ := List.mem_map.1 hl
    obtain ⟨i, hi, rfl⟩ := List.getElem_of_mem hk
    have := h.cl i (by rw [← h.lc]; exact hi)
    rw [List.getD, List.getElem?_eq_getElem hi] at this
    exact ⟨padL_len this.1, this.2.pad hp _⟩
  · obtain ⟨i, hi, rfl⟩ := List.getElem_of_mem hl
    have := h.row i hi
    rw [List.getD, List.getElem?_eq_getElem hi] at this
    exact ⟨this.1, this.2.1⟩
end Go.Proofs.Ytjdbkbbhjiemdaa
