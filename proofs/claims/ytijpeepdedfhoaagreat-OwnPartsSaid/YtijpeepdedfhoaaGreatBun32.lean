/- What the texts OpenSl, OpenMat, OpenOw show, in one text. -/
import Derived.Test.YtijpeepdedfhoaaGreatBun04
import Derived.Deep.Slices
import Derived.Deep.Fields
import Derived.Test.YtijpeepdedfhoaaGreatBun05
import Derived.Lib.SmallJoins
import Derived.Test.YtijpeepdedfhoaaGreatBun14
/- An argument that is a slice of structs, each field in one cell. -/
namespace Go.Proofs.YtijpeepdedfhoaaGreat
open Go.RowKit Go.ChangeShapes Go.WideShapes Go.ChangeAt Go.Deep
section
variable {H : Type} {enc : TypeId × Value → H} {P : Program} {w : World} {base : Nat} {spare : Nat → Bool} {held : Bool}
theorem open_slice_fields {t e : TypeId} {fs : Array Field} {fuel : Nat} {cs : List Value} {x : DataW H × List MemPlace} (ht : P.underlying t = some (.slice e)) (he : P.underlying e = some (.struct fs))
    (hone : oneCellFields P fs = true) (hC : P.cellsOf e = fs.size) (h : DataW.trod enc P w base spare held fuel t cs = some x) :
    (cs = [.slice none 0 0] ∧ x = (.nil, [])) ∨
    ∃ (a : Addr) (len cap m : Nat) (D : Nat → DataW H) (Pl : Nat → List MemPlace), cs = [.slice (some a) len cap] ∧ base ≤ a.block ∧ len ≤ cap ∧ cap ≤ maxLen ∧ m = (if spare a.block then cap else len) ∧
      x = (.slice ((List.range len).map D) ((List.range (m - len)).map fun j => D (len + j)), MemPlace.row a (m * fs.size) ++ (List.range m).flatMap Pl) ∧
      ∀ i, i < m → ∃ (ys : List (DataW H × List MemPlace)) (n : Nat), D i = .agg (ys.map (·.1)) ∧ Pl i = ys.flatMap (·.2) ∧ ys.length = fs.size ∧
        ∀ (j : Nat) (f : Field), fs[j]? = some f → ∃ (v : Value) (y : DataW H × List MemPlace), w.cell? (a.add (i * fs.size + j)) = some v ∧ ys[j]? = some y ∧ DataW.trod enc P w base spare held n f.type [v] = some y := by
  rcases open_slice ht h with h0 | ⟨a, len, cap, m, n, D, Pl, hcs, hb, hl, hm, hmm, hx, hi⟩
  · exact .inl h0
  · refine .inr ⟨a, len, cap, m, D, Pl, hcs, hb, hl, hm, hmm, by rw [hC] at hx; exact hx, fun i him => ?_⟩
    obtain ⟨cs', hc, ht'⟩ := hi i him
    rw [hC] at hc
    obtain ⟨ys, n', hn', hy, hlen, hyl, hf⟩ := DataW.trod_struct he ht'
    obtain ⟨_, hcl, hat⟩ := World.cells?_some hc
    simp only [Prod.mk.injEq] at hy
    refine ⟨ys, n', hy.1, hy.2, hyl, fun j f hj => ?_⟩
    obtain ⟨ho, hk⟩ := hone_of hone j f hj
    have hjl : j < fs.size := (Array.getElem?_eq_some_iff.1 hj).1
    have hcell := hat j hjl
    have hv : cs'[j]? = some (cs'[j]'(by omega)) := List.getElem?_eq_getElem (by omega)
    have h1 := hf j f hj
    rw [ho, hk] at h1
    have hone' : (cs'.drop j).take 1 = [cs'[j]'(by omega)] := by
      rw [List.drop_eq_getElem_cons (by omega)]
      rfl
    rw [hone'] at h1
    have hys : ys[j]? = some (ys[j]'(by omega)) := List.getElem?_eq_getElem (by omega)
    refine ⟨_, _, ?_, hys, h1.trans hys⟩
    rw [← Go.Deep.add_add, hcell, hv]
end
end Go.Proofs.YtijpeepdedfhoaaGreat
/- Arguments that are structs: matrices, whole and thin. -/
namespace Go.Proofs.YtijpeepdedfhoaaGreat
open Go.RowKit Go.ChangeShapes Go.WideShapes Go.ChangeAt Go.Deep Go.Joins
variable {H : Type} {enc : TypeId × Value → H} {W : World} {base : Nat} {spare : Nat → Bool}

/-- a field that is a slice of integers -/
theorem trod_Ints {P : Program} {t e : TypeId} {k : IntKind} {v : Value} {y : DataW H × List MemPlace} {n : Nat} (ht : P.underlying t = some (.slice e)) (he : P.underlying e = some (.int k)) (hc : P.cellsOf e = 1)
    (h : DataW.trod enc P W 0 spare true n t [v] = some y) : ∃ xs : List Int, Ints k W v xs ∧ ∀ x ∈ xs, (Lit.int k x).wf = true := by
  rcases open_ints ht he hc h with ⟨hcs, _⟩ | ⟨a, len, cap, zs, hcs, _, hl, hm, hz, _, hcell, hwz⟩
  · obtain rfl : v = .slice none 0 0 := by simpa using hcs
    exact ⟨[], Ints.nil, by simp⟩
  · obtain rfl : v = .slice (some a) len cap := by simpa using hcs
    unfold maxLen at hm
    have hlz : len ≤ zs.length := by rw [hz]; split <;> omega
    have hlen : (zs.take len).length = len := by simp; omega
    refine ⟨zs.take len, ⟨some a, cap, by rw [hlen], by omega, by omega, fun hp => ?_⟩, fun x hx => hwz x (List.mem_of_mem_take hx)⟩
    obtain ⟨b, off, spot⟩ := a
    have hspot : spot = none := by simpa [Addr.add] using World.cell?_spot (hcell 0 (by omega))
    subst hspot
    refine ⟨b, off, rfl, cell_lt (hcell 0 (by omega)), fun j hj => ?_⟩
    have := hcell j (by omega)
    rw [add_plain] at this
    rw [this]
    simp [List.getD, show j < len by omega]
/-- a field that is an integer -/
theorem trod_Int {P : Program} {t : TypeId} {k : IntKind} {v : Value} {y : DataW H × List MemPlace} {n : Nat} (ht : P.underlying t = some (.int k)) (h : DataW.trod enc P W 0 spare true n t [v] = some y) : ∃ x, v = .int k x ∧ (Lit.int k x).wf = true := by
  obtain ⟨x, hx, _, hw⟩ := DataW.trod_int ht h
  exact ⟨x, by simpa using hx, hw⟩
set_option maxRecDepth 100000 in
theorem open_Mat {v : Value} {d : DataW H} {ps : List MemPlace} (hval : Value.okWide Tryz.prog W .any base 25 v) (hd : DataW.Trod enc Tryz.prog W 0 spare true 25 v d ps) :
    ∃ (r c : Int) (u : Value) (xs : List Int), v = .agg #[.int .i64 r, .int .i64 c, u] ∧ (Lit.int .i64 r).wf = true ∧ (Lit.int .i64 c).wf = true ∧ Ints .u64 W u xs ∧ ∀ x ∈ xs, (Lit.int .u64 x).wf = true := by
  obtain ⟨v0, v1, v2, y0, y1, y2, n, rfl, _, _, h0, h1, h2⟩ := open_agg3 Tryz.underlying25 (by kernel_rfl) (by kernel_rfl) hval hd
  obtain ⟨r, rfl, hr⟩ := trod_Int Tryz.underlying3 h0
  obtain ⟨c, rfl, hc⟩ := trod_Int Tryz.underlying3 h1
  obtain ⟨xs, i, w⟩ := trod_Ints Tryz.underlying23 Tryz.underlying22 (by kernel_rfl) h2
  exact ⟨r, c, v2, xs, rfl, hr, hc, i, w⟩
/-- the fields of a struct, each in one cell -/
theorem open_fields {P : Program} {r : Reach} {b0 : Nat} {t : TypeId} {fs : Array Field} {v : Value} {d : DataW H} {ps : List MemPlace} (hs : P.underlying t = some (.struct fs)) (hone : oneCellFields P fs = true) (hC : P.cellsOf t = fs.size)
    (hv : Value.okWide P W r b0 t v) (h : DataW.Trod enc P W base spare true t v d ps) :
    ∃ (l : List Value) (n : Nat), v = .agg l.toArray ∧ l.length = fs.size ∧ ∀ (j : Nat) (f : Field) (u : Value), fs[j]? = some f → l[j]? = some u → ∃ y, DataW.trod enc P W base spare true n f.type [u] = some y := by
  obtain ⟨cs, rfl, hsz⟩ := okWide_struct hs hv
  obtain ⟨l⟩ := cs
  obtain ⟨fuel, hf⟩ := h
  obtain ⟨xs, n, _, _, _, hlen, hg⟩ := DataW.trod_struct hs hf
  refine ⟨l, n, rfl, hsz.trans hC, fun j f u hj hu => ?_⟩
  obtain ⟨ho, hk⟩ := hone_of hone j f hj
  have hjl : j < fs.size := (Array.getElem?_eq_some_iff.1 hj).1
  have h1 := hg j f hj
  have hl : j < l.length := (List.getElem?_eq_some_iff.1 hu).1
  have he : l[j] = u := (List.getElem?_eq_some_iff.1 hu).2
  have e1 : (l.drop j).take 1 = [u] := by rw [List.drop_eq_getElem_cons hl, he]; rfl
  rw [ho, hk] at h1
  have h2 : (((Value.agg l.toArray).cells.toList.drop j).take 1) = [u] := e1
  rw [h2] at h1
  exact ⟨xs[j]'(by omega), by rw [h1]; exact List.getElem?_eq_getElem _⟩
end Go.Proofs.YtijpeepdedfhoaaGreat
/- Arguments that are claims (polynomials shown to be a matrix's own). -/
namespace Go.Proofs.YtijpeepdedfhoaaGreat
open Go.RowKit Go.ChangeShapes Go.WideShapes Go.ChangeAt Go.Deep Go.Joins
section
variable {H : Type} {enc : TypeId × Value → H} {W : World} {base : Nat} {spare : Nat → Bool}
set_option maxRecDepth 100000 in
theorem open_Own {v : Value} {d : DataW H} {ps : List MemPlace} (hval : Value.okWide Tryz.prog W .any base 30 v) (hd : DataW.Trod enc Tryz.prog W 0 spare true 30 v d ps) :
    ∃ (fv hv sv tv uv vv : Value) (F H S T U V : List Int), v = .agg #[fv, hv, sv, tv, uv, vv] ∧ OwnR W fv hv sv tv uv vv F H S T U V ∧ OwnU F H S T U V := by
  obtain ⟨l, n, rfl, hl, hf⟩ := open_fields Tryz.underlying30 (by kernel_rfl) (by kernel_rfl) hval hd
  match l, hl with
  | [v0, v1, v2, v3, v4, v5], _ =>
    obtain ⟨y0, h0⟩ := hf 0 _ v0 rfl rfl
    obtain ⟨y1, h1⟩ := hf 1 _ v1 rfl rfl
    obtain ⟨y2, h2⟩ := hf 2 _ v2 rfl rfl
    obtain ⟨y3, h3⟩ := hf 3 _ v3 rfl rfl
    obtain ⟨y4, h4⟩ := hf 4 _ v4 rfl rfl
    obtain ⟨y5, h5⟩ := hf 5 _ v5 rfl rfl
    obtain ⟨F, iF, wF⟩ := trod_Ints Tryz.underlying23 Tryz.underlying22 (by kernel_rfl) h0
    obtain ⟨H', iH, wH⟩ := trod_Ints Tryz.underlying23 Tryz.underlying22 (by kernel_rfl) h1
    obtain ⟨S, iS, wS⟩ := trod_Ints Tryz.underlying23 Tryz.underlying22 (by kernel_rfl) h2
    obtain ⟨T, iT, wT⟩ := trod_Ints Tryz.underlying23 Tryz.underlying22 (by kernel_rfl) h3
    obtain ⟨U, iU, wU⟩ := trod_Ints Tryz.underlying23 Tryz.underlying22 (by kernel_rfl) h4
    obtain ⟨V, iV, wV⟩ := trod_Ints Tryz.underlying23 Tryz.underlying22 (by kernel_rfl) h5
    have c : ∀ l : List Int, (∀ x ∈ l, (Lit.int .u64 x).wf = true) → U64s l := fun l h x hx => by have := u64_wf (h x hx); omega
    exact ⟨v0, v1, v2, v3, v4, v5, F, H', S, T, U, V, rfl, ⟨iF, iH, iS, iT, iU, iV⟩, c _ wF, c _ wH, c _ wS, c _ wT, c _ wU, c _ wV⟩
end
end Go.Proofs.YtijpeepdedfhoaaGreat
