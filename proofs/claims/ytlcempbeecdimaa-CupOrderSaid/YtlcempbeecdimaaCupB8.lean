/- What the texts Mat3, Mat4 show, in one text. -/
import Derived.Test.YtlcempbeecdimaaMat2
import Derived.Test.YtlcempbeecdimaaStep
import Derived.Deep.RegionLaw
/- The document's own answers of layer 5 that make matrices: Turn, Mul. -/
namespace Go.Proofs.Ytlcempbeecdimaa
open Go.RowKit Go.Maps

theorem alloc_size (w : World) (o : Obj) : (w.alloc o).heap.size = w.heap.size + 1 := by simp
/-- what a call answers: a matrix -/
def RetM (r c : Int) (l : List Int) (w : World) (e : Ending) (w' : World) : Prop := ∃ u, e = .returned (matV r c u) ∧ Ints .u64 w' u l ∧ Ext w w'
theorem setCell_grown (w : World) (p : Addr) (u : Value) : w.grownBy (w.setCell p u) (some p.block) :=
  ⟨rfl, rfl, rfl, by simp [World.setCell], fun k _ hk => heap_setCell_other w p k u (fun e => hk (by rw [e]))⟩
theorem Blk.grown {w w' : World} {g : Nat} {t : TypeId} {cs : Array Value} {row : Option Nat} (h : Blk w g t cs) (hg : w.grownBy w' row) (hr : row ≠ some g) : Blk w' g t cs :=
  (hg.block g h.lt (fun e => hr e.symm)).trans h
/-- a matrix that is built: its box, and its cells so far -/
structure Bld (w0 w : World) (h base : Nat) (r c : Int) (rv : Value) (t : Nat) (G : Nat → Int) : Prop where
  box : Blk w h 25 #[.int .i64 r, .int .i64 c, rv]
  own : w.ownsRow base 22 1 rv t ((tab t G).map (Value.int .u64))
  ext : Ext w0 w
  hb : w0.heap.size ≤ base
  hh : w0.heap.size ≤ h
theorem Bld.ext' {w0 w w' : World} {h base : Nat} {r c : Int} {rv : Value} {t : Nat} {G : Nat → Int} (b : Bld w0 w h base r c rv t G) (y : Ext w w') : Bld w0 w' h base r c rv t G :=
  ⟨b.box.ext y, ownsRow_ext b.own y, b.ext.trans y, b.hb, b.hh⟩
/-- a number is appended, and the box told -/
theorem Bld.next {w0 w w' : World} {h base : Nat} {r c : Int} {rv v' : Value} {t : Nat} {G : Nat → Int} (b : Bld w0 w h base r c rv t G) (hown : w'.ownsRow base 22 1 v' (t + 1) ((tab (t + 1) G).map (Value.int .u64))) (hg : w.grownBy w' rv.ownBlock) :
    Bld w0 (w'.setCell ⟨h, 2, none⟩ v') h base r c v' (t + 1) G := by
  have hne : rv.ownBlock ≠ some h := by
    rcases ownsRow_blk b.own b.box (by decide) with e | e
    · rw [e]; simp
    · exact e
  have hb := b.box.grown hg hne
  have hne2 : v'.ownBlock ≠ some h := by
    rcases ownsRow_blk hown hb (by decide) with e | e
    · rw [e]; simp
    · exact e
  exact ⟨hb.set_ 2 v', hown.kept (setCell_grown _ _ _) (.inr hne2), (b.ext.grown hg fun k e => Nat.le_trans b.hb (b.own.lt k e).1).setCell b.hh _, b.hb, b.hh⟩
theorem Bld.box' {w0 w w' : World} {h base : Nat} {r c : Int} {rv : Value} {t : Nat} {G : Nat → Int} (b : Bld w0 w h base r c rv t G) (hg : w.grownBy w' rv.ownBlock) : w'.cell? ⟨h, 2, none⟩ = some rv ∧ w'.frozen? ⟨h, 2, none⟩ = false := by
  have hne : rv.ownBlock ≠ some h := by
    rcases ownsRow_blk b.own b.box (by decide) with e | e
    · rw [e]; simp
    · exact e
  exact ⟨(b.box.grown hg hne).cell 2, (b.box.grown hg hne).frozen 2⟩
theorem own_set {w : World} {base g n : Nat} {v : Value} {xs : List Value} {ty : TypeId} {cs : Array Value} (h : w.ownsRow base 22 1 v n xs) (hB : Blk w g ty cs) (hty : 22 ≠ ty) (i : Nat) (u : Value) : (w.setCell ⟨g, i, none⟩ u).ownsRow base 22 1 v n xs :=
  h.kept (setCell_grown _ _ _) (ownsRow_blk h hB hty)
theorem own_ints {w : World} {base n : Nat} {v : Value} {xs : List Int} (h : w.ownsRow base 22 1 v n (xs.map (Value.int .u64))) : Ints .u64 w v xs := by
  obtain ⟨a, c, rfl, h1, h2, h3, h4⟩ := WRow.of_owns h
  rcases Nat.eq_zero_or_pos n with h0 | h0
  · exact ⟨a, c, by rw [h3], by omega, h2, fun h => by omega⟩
  · obtain ⟨g4, rfl, hg4, hw4⟩ := h4 h0
    exact hw4.ints' h3 h1 h2
/-- a box is told its three cells -/
theorem own_set3 {w : World} {base g n : Nat} {v : Value} {xs : List Int} {cs : Array Value} (h : w.ownsRow base 22 1 v n (xs.map (Value.int .u64))) (hB : Blk w g 25 cs) (a b c : Value) :
    Ints .u64 (((w.setCell ⟨g, 0, none⟩ a).setCell ⟨g, 1, none⟩ b).setCell ⟨g, 2, none⟩ c) v xs :=
  own_ints (own_set (own_set (own_set h hB (by decide) 0 a) (hB.set_ 0 a) (by decide) 1 b) ((hB.set_ 0 a).set_ 1 b) (by decide) 2 c)
/-- other boxes stay -/
theorem Bld.other {w0 w w' : World} {h base g : Nat} {r c : Int} {rv v' : Value} {t : Nat} {G : Nat → Int} {ty : TypeId} {cs : Array Value} (b : Bld w0 w h base r c rv t G) (hB : Blk w g ty cs) (hty : 22 ≠ ty) (hgh : g ≠ h) (hg : w.grownBy w' rv.ownBlock) :
    Blk (w'.setCell ⟨h, 2, none⟩ v') g ty cs := by
  have hne : rv.ownBlock ≠ some g := by
    rcases ownsRow_blk b.own hB hty with e | e
    · rw [e]; simp
    · exact e
  exact (hB.grown hg hne).grown (setCell_grown _ _ _) (fun e => hgh (by injection e with e; exact e.symm))
theorem Blk.at3 {w : World} {g : Nat} {t : TypeId} {a b c : Value} (h : Blk w g t #[a, b, c]) : w.cell? ⟨g, 0, none⟩ = some a ∧ w.cell? ⟨g, 1, none⟩ = some b ∧ w.cell? ⟨g, 2, none⟩ = some c :=
  ⟨h.cell 0, h.cell 1, h.cell 2⟩

end Go.Proofs.Ytlcempbeecdimaa
/- The document's own answer of layer 5 to a product of matrices: Mul. -/
namespace Go.Proofs.Ytlcempbeecdimaa
open Go.RowKit Go.Maps

/-- four boxes, one behind the other -/
theorem boxes4 (w : World) (t : TypeId) (A B C D : Array Value) :
    Blk ((((w.alloc (.cells A t)).alloc (.cells B t)).alloc (.cells C t)).alloc (.cells D t)) w.heap.size t A ∧ Blk ((((w.alloc (.cells A t)).alloc (.cells B t)).alloc (.cells C t)).alloc (.cells D t)) (w.heap.size + 1) t B ∧
    Blk ((((w.alloc (.cells A t)).alloc (.cells B t)).alloc (.cells C t)).alloc (.cells D t)) (w.heap.size + 1 + 1) t C ∧ Blk ((((w.alloc (.cells A t)).alloc (.cells B t)).alloc (.cells C t)).alloc (.cells D t)) (w.heap.size + 1 + 1 + 1) t D ∧
    Ext w ((((w.alloc (.cells A t)).alloc (.cells B t)).alloc (.cells C t)).alloc (.cells D t)) :=
  ⟨(Blk.new w t A).ext ((((Ext.refl _).alloc _).alloc _).alloc _), (Blk.at_ (by rw [alloc_size])).ext (((Ext.refl _).alloc _).alloc _), (Blk.at_ (by rw [alloc_size, alloc_size])).ext ((Ext.refl _).alloc _), Blk.at_ (by rw [alloc_size, alloc_size, alloc_size]), ((((Ext.refl w).alloc _).alloc _).alloc _).alloc _⟩
/-- a call's own world, by its boxes alone -/
theorem at_name {α : Type} (x : α) : ∃ y, x = y := ⟨_, rfl⟩

end Go.Proofs.Ytlcempbeecdimaa
