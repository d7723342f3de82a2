/- What the functions of package perm answer of what is right. -/
import Derived.Test.YtalkbmnbggclpaaPmW
namespace Go.Proofs.Ytalkbmnbggclpaa
open Go.RowKit
variable {n : Nat} {p q x : List Int} {v u : Value} {w : World}

theorem Ord.i64 (h : Ord n p) (h1 : n ≤ 64) : I64s p := fun x hx => by have := h.mem hx; omega
theorem pThen (hv : Ints .i64 w v p) (hu : Ints .i64 w u q) (hp : Ord n p) (hq : Ord n q) (h0 : 0 < n) (h1 : n ≤ 64) : Calls Try.prog 8 #[v, u] w (RetVI (thenL p q) w) := by
  have h := pmThen v u p q w hv (hp.i64 h1) hu (hq.i64 h1)
  rw [hp.b h0 h1, hq.b h0 h1, decide_eq_true (show q.length = p.length by rw [hp.len, hq.len])] at h
  exact h.mono fun _ _ k => k.yes
theorem pBack (hv : Ints .i64 w v p) (hp : Ord n p) (h0 : 0 < n) (h1 : n ≤ 64) : Calls Try.prog 9 #[v] w (RetVI (backL p) w) := by
  have h := pmBack v p w hv (hp.i64 h1)
  rw [hp.b h0 h1] at h
  exact h.mono fun _ _ k => k.yes
theorem pSign (hv : Ints .i64 w v p) (hp : Ord n p) (h0 : 0 < n) (h1 : n ≤ 64) : Calls Try.prog 10 #[v] w (Ret (.tuple #[.int .i64 (sgnL p), .int .i64 0]) w) := by
  have h := pmSign v p w hv (hp.i64 h1)
  rw [hp.b h0 h1] at h
  exact h
theorem pDo (hv : Ints .i64 w v p) (hu : Ints .u64 w u x) (hx : U64s x) (hp : Ord n p) (hl : x.length = n) (h0 : 0 < n) (h1 : n ≤ 64) : Calls Try.prog 11 #[v, u] w (RetVU (doL p x) w) := by
  have h := pmDo v u p x w hv (hp.i64 h1) hu hx
  rw [hp.b h0 h1, decide_eq_true (show x.length = p.length by rw [hp.len, hl])] at h
  exact h.mono fun _ _ k => k.yes
theorem pOne (h0 : 0 < n) (h1 : n ≤ 64) : Calls Try.prog 14 #[.int .i64 n] w (RetVI (upL n) w) := by
  have h := pmOne n w (by omega) (by omega)
  rw [show sideB (n : Int) = true from decide_eq_true (by omega), Int.toNat_natCast] at h
  exact h.mono fun _ _ k => k.yes
theorem pRows {xs : List Int} {c : Nat} (hv : Ints .i64 w v p) (hu : Ints .u64 w u xs) (hx : U64s xs) (hp : Ord n p) (hl : xs.length = n * c) (hc : 1 ≤ c ∧ c ≤ 64) (h0 : 0 < n) (h1 : n ≤ 64) : Calls Try.prog 12 #[v, matV n c u] w (RetN n c (rowsL p c xs) w) := by
  have h := pmRows v u p xs n c w hv (hp.i64 h1) hu hx
  have e : (ordB p && (shB n c xs && decide ((n : Int) = p.length))) = true := by
    rw [hp.b h0 h1, hp.len, shB, decide_eq_true (show (1 : Int) ≤ n ∧ (n : Int) ≤ 64 by omega), decide_eq_true (show (1 : Int) ≤ c ∧ (c : Int) ≤ 64 by omega), decide_eq_true (show (xs.length : Int) = n * c by rw [hl]; push_cast; rfl)]
    simp
  rw [e, Int.toNat_natCast] at h
  refine h.mono ?_
  rintro _ w' ⟨rx, cx, v, l', ee, rfl, h2, h3, h4, h5, h6⟩
  simp only [if_true] at h3 h4
  obtain ⟨rfl, rfl⟩ := h5 rfl
  subst h3; subst h4
  exact ⟨v, rfl, h2, h6⟩
/-- rows of whole numbers, and no error -/
def RetVII (ls : List (List Int)) (w : World) (e : Ending) (w' : World) : Prop := ∃ v, e = .returned (.tuple #[v, .int .i64 0]) ∧ IntsL w' v ls ∧ Ext w w'
theorem pRings (hv : Ints .i64 w v p) (hp : Ord n p) (h0 : 0 < n) (h1 : n ≤ 64) : Calls Try.prog 13 #[v] w (RetVII (ringsL p) w) := by
  have h := pmRings v p w hv (hp.i64 h1)
  rw [hp.b h0 h1] at h
  refine h.mono ?_
  rintro _ w' ⟨v, l', ee, rfl, h2, h3, h4, h5⟩
  simp only [if_true] at h3 h4
  subst h3; subst h4
  exact ⟨v, rfl, h2, h5⟩
theorem owns_some {w : World} {base n : Nat} {e : TypeId} {v : Value} {xs : List Value} (h : w.ownsRow base e 1 v n xs) (h0 : 0 < n) : ∃ g cap, v = .slice (some ⟨g, 0, none⟩) n cap ∧ n ≤ cap ∧ cap ≤ 9223372036854775807 ∧ base ≤ g ∧ g < w.heap.size := by
  rcases h.2 with ⟨rfl, h1⟩ | ⟨g, cap, cur, rfl, hg, hb, hc1, hc2, _⟩
  · omega
  · exact ⟨g, cap, rfl, hc1, by unfold maxLen at hc2; omega, hg, Blk.lt (t := e) (cs := cur) hb⟩
theorem doL_u64 (hx : U64s x) : U64s (doL p x) := fun y hy => by
  obtain ⟨k, _, rfl⟩ := List.mem_map.1 hy
  rcases Nat.lt_or_ge k.toNat x.length with h | h
  · exact hx.get h
  · simp [List.getD, List.getElem?_eq_none h]
end Go.Proofs.Ytalkbmnbggclpaa
