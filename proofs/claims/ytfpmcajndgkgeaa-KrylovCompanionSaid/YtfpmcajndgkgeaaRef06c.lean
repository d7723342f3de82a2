/- The document's own answer of layer 6 that puts a matrix's rows in another order: Rows. -/
import Derived.Test.YtfpmcajndgkgeaaBun10
import Derived.Test.YtfpmcajndgkgeaaBun11
import Derived.Test.YtfpmcajndgkgeaaBun06
import Derived.StillTailTactics
namespace Go.Proofs.Ytfpmcajndgkgeaa
open Go.RowKit Go.Maps

/-- a matrix's rows, in another order -/
def rowsL (p : List Int) (c : Nat) (xs : List Int) : List Int := grid p.length c fun i k => xs.getD ((p.getD i 0).toNat * c + k) 0
theorem rowsL_len (p : List Int) (c : Nat) (xs : List Int) : (rowsL p c xs).length = p.length * c := grid_len _ _ _
theorem tab_add {t d : Nat} {G : Nat → Int} {l : List Int} (hl : l.length = d) (h : ∀ j, j < d → l.getD j 0 = G (t + j)) : tab (t + d) G = tab t G ++ l := by
  symm
  refine tab_of (by rw [List.length_append, tab_len, hl]) fun k hk => ?_
  simp only [List.getD, List.getElem?_append, tab_len]
  split
  · rename_i h1
    exact tab_get G h1
  · have := h (k - t) (by omega)
    rwa [show t + (k - t) = k by omega] at this
/-- a slice's numbers as cells that are appended -/
theorem ints_news {k : IntKind} {w : World} {ad : Addr} {m c : Nat} {l : List Int} (h : Ints k w (.slice (some ad) m c) l) : ∀ j u, (l.map (Value.int k))[j]? = some u → w.cell? (ad.add j) = some u := by
  intro j u hj
  obtain ⟨a, cap, e, _, _, h3⟩ := h
  injection e with e1 _ _
  subst e1
  have hjl : j < l.length := by
    rcases Nat.lt_or_ge j l.length with h | h
    · exact h
    · rw [List.getElem?_eq_none (by simpa using h)] at hj; cases hj
  obtain ⟨b, off, e, hb, hcell⟩ := h3 (by omega)
  injection e with e
  subst e
  rw [show ((⟨b, off, none⟩ : Addr).add j) = ⟨b, off + j, none⟩ from Go.WideShapes.add_plain _ _ _, hcell j hjl]
  rw [List.getElem?_map, List.getElem?_eq_getElem hjl] at hj
  simp only [Option.map_some, Option.some.injEq] at hj
  rw [← hj]
  simp [List.getD, List.getElem?_eq_getElem hjl]
theorem ints_one {k : IntKind} {l : List Int} : ∀ u ∈ l.map (Value.int k), u.oneCell' = true := by
  intro u hu
  obtain ⟨q, _, rfl⟩ := List.mem_map.1 hu
  rfl
/-- numbers are appended, and the box told -/
theorem Bld.more {w0 w w' : World} {h base : Nat} {r c : Int} {rv v' : Value} {t t' : Nat} {G : Nat → Int} (b : Bld w0 w h base r c rv t G) (hown : w'.ownsRow base 22 1 v' t' ((tab t' G).map (Value.int .u64))) (hg : w.grownBy w' rv.ownBlock) :
    Bld w0 (w'.setCell ⟨h, 2, none⟩ v') h base r c v' t' G := by
  have hne : rv.ownBlock ≠ some h := by
    rcases ownsRow_blk b.own b.box (by decide) with e | e
    · rw [e]; simp
    · exact e
  have hb := b.box.grown hg hne
  have hne2 : v'.ownBlock ≠ some h := by
    rcases ownsRow_blk hown hb (by decide) with e | e
    · rw [e]; simp
    · exact e
  exact ⟨hb.set_ 2 v', hown.kept (setCell_grown _ _ _) (.inr hne2), (b.ext.grown hg fun k e => Nat.le_trans b.hb (b.own.lt k e).1).setCell b.hh _, b.hb, b.hh⟩

end Go.Proofs.Ytfpmcajndgkgeaa
