/- Arguments that are frames, or lists of frames. -/
import Derived.Test.YticabjdcegimcaaOpenMat
import Derived.Test.YticabjdcegimcaaOpenSl
import Derived.Test.YticabjdcegimcaaFr0
import Derived.Lib.SmallJoins
import Derived.Deep.Fields
namespace Go.Proofs.Yticabjdcegimcaa
open Go.RowKit Go.ChangeShapes Go.WideShapes Go.ChangeAt Go.Deep Go.Joins
section
variable {H : Type} {enc : TypeId × Value → H} {W : World} {base : Nat} {spare : Nat → Bool}
set_option maxRecDepth 100000 in
theorem open_Frame {v : Value} {d : DataW H} {ps : List MemPlace} (hval : Value.okWide Try.prog W .any base 25 v) (hd : DataW.Trod enc Try.prog W 0 spare true 25 v d ps) :
    ∃ (f : Frm) (u : Value), v = frmV f u ∧ f.Ok ∧ Ints .u64 W u f.body := by
  obtain ⟨l, n, rfl, hl, hf⟩ := open_fields Try.underlying25 (by kernel_rfl) (by kernel_rfl) hval hd
  match l, hl with
  | [v0, v1, v2, v3], _ =>
    obtain ⟨y0, h0⟩ := hf 0 _ v0 rfl rfl
    obtain ⟨y1, h1⟩ := hf 1 _ v1 rfl rfl
    obtain ⟨y2, h2⟩ := hf 2 _ v2 rfl rfl
    obtain ⟨y3, h3⟩ := hf 3 _ v3 rfl rfl
    obtain ⟨k, rfl, hk⟩ := trod_Int Try.underlying3 h0
    obtain ⟨r, rfl, hr⟩ := trod_Int Try.underlying3 h1
    obtain ⟨m, rfl, hm⟩ := trod_Int Try.underlying22 h2
    obtain ⟨xs, i3, w3⟩ := trod_Ints Try.underlying23 Try.underlying48 (by kernel_rfl) h3
    have hm := u32_wf hm
    exact ⟨⟨k, r, m, xs⟩, v3, rfl, ⟨show 0 ≤ m ∧ m < 4294967296 by omega, fun x hx => by have := u64_wf (w3 x hx); show 0 ≤ x ∧ x < 18446744073709551616; omega⟩, i3⟩
/-- in the world w the slice v reads as the frames l -/
def Frs (w : World) (v : Value) (l : List Frm) : Prop :=
  ∃ (a : Option Addr) (cap : Nat), v = .slice a l.length cap ∧ l.length ≤ cap ∧ cap ≤ 9223372036854775807 ∧
    (0 < l.length → ∃ b off, a = some ⟨b, off, none⟩ ∧ b < w.heap.size ∧ ∀ j, j < l.length →
      w.cell? ⟨b, off + j * 4, none⟩ = some (.int .i64 (l.getD j .zero).kind) ∧ w.cell? ⟨b, off + j * 4 + 1, none⟩ = some (.int .i64 (l.getD j .zero).round) ∧ w.cell? ⟨b, off + j * 4 + 2, none⟩ = some (.int .u32 (l.getD j .zero).num) ∧
      ∃ v', w.cell? ⟨b, off + j * 4 + 3, none⟩ = some v' ∧ Ints .u64 w v' (l.getD j .zero).body)
theorem Frs.ext {w w' : World} {v : Value} {l : List Frm} (h : Frs w v l) (he : Ext w w') : Frs w' v l := by
  obtain ⟨a, cap, h1, h2, h3, h4⟩ := h
  refine ⟨a, cap, h1, h2, h3, fun hp => ?_⟩
  obtain ⟨b, off, ha, hb, hc⟩ := h4 hp
  refine ⟨b, off, ha, Nat.lt_of_lt_of_le hb he.size, fun j hj => ?_⟩
  obtain ⟨c1, c2, c3, v', c4, c5⟩ := hc j hj
  exact ⟨(he.cells _ _ hb).trans c1, (he.cells _ _ hb).trans c2, (he.cells _ _ hb).trans c3, v', (he.cells _ _ hb).trans c4, c5.ext he⟩
theorem Frs.nil {w : World} : Frs w (.slice none 0 0) [] := ⟨none, 0, rfl, by simp, by omega, by simp⟩
set_option maxRecDepth 100000 in
theorem open_Frames {v : Value} {d : DataW H} {ps : List MemPlace} (hval : Value.okWide Try.prog W .any base 46 v) (hd : DataW.Trod enc Try.prog W 0 spare true 46 v d ps) :
    ∃ l : List Frm, Frs W v l ∧ ∀ f ∈ l, f.Ok := by
  obtain ⟨a0, len0, cap0, rfl⟩ := okWide_slice Try.underlying46 hval
  obtain ⟨fuel, hf0⟩ := hd
  rcases open_slice_fields Try.underlying46 Try.underlying25 (by kernel_rfl) (by kernel_rfl) hf0 with ⟨hcs, hx⟩ | ⟨a, len, cap, m, D, Pl, hcs, _, hl, hm, hmm, hx, hi⟩
  · simp [Value.cells] at hcs
    obtain ⟨rfl, rfl, rfl⟩ := hcs
    exact ⟨[], Frs.nil, fun q hq => by simp at hq⟩
  · simp [Value.cells] at hcs
    obtain ⟨rfl, rfl, rfl⟩ := hcs
    have hlm : len0 ≤ m := by rw [hmm]; split <;> omega
    have key : ∀ i, i < len0 → ∃ q : Frm, W.cell? (a.add (i * 4)) = some (.int .i64 q.kind) ∧ W.cell? (a.add (i * 4 + 1)) = some (.int .i64 q.round) ∧ W.cell? (a.add (i * 4 + 2)) = some (.int .u32 q.num) ∧ (∃ v', W.cell? (a.add (i * 4 + 3)) = some v' ∧ Ints .u64 W v' q.body) ∧ q.Ok := by
      intro i hil
      obtain ⟨ys, n, _, _, _, hf⟩ := hi i (by omega)
      obtain ⟨v0, y0, c0, _, t0⟩ := hf 0 _ rfl
      obtain ⟨v1, y1, c1, _, t1⟩ := hf 1 _ rfl
      obtain ⟨v2, y2, c2, _, t2⟩ := hf 2 _ rfl
      obtain ⟨v3, y3, c3, _, t3⟩ := hf 3 _ rfl
      obtain ⟨k, rfl, hk⟩ := trod_Int Try.underlying3 t0
      obtain ⟨r, rfl, hr⟩ := trod_Int Try.underlying3 t1
      obtain ⟨mm, rfl, hm2⟩ := trod_Int Try.underlying22 t2
      obtain ⟨xs, i3, w3⟩ := trod_Ints Try.underlying23 Try.underlying48 (by kernel_rfl) t3
      have hm2 := u32_wf hm2
      exact ⟨⟨k, r, mm, xs⟩, by simpa using c0, by simpa using c1, by simpa using c2, ⟨v3, by simpa using c3, i3⟩, show 0 ≤ mm ∧ mm < 4294967296 by omega, fun x hx => by have := u64_wf (w3 x hx); show 0 ≤ x ∧ x < 18446744073709551616; omega⟩
    classical
    let f : Nat → Frm := fun i => if h : i < len0 then Classical.choose (key i h) else .zero
    have hf : ∀ i, i < len0 → W.cell? (a.add (i * 4)) = some (.int .i64 (f i).kind) ∧ W.cell? (a.add (i * 4 + 1)) = some (.int .i64 (f i).round) ∧ W.cell? (a.add (i * 4 + 2)) = some (.int .u32 (f i).num) ∧ (∃ v', W.cell? (a.add (i * 4 + 3)) = some v' ∧ Ints .u64 W v' (f i).body) ∧ (f i).Ok := by
      intro i hil
      have := Classical.choose_spec (key i hil)
      simpa [f, hil] using this
    have hgd : ∀ j, j < len0 → ((List.range len0).map f).getD j .zero = f j := fun j hj => by simp [List.getD, hj]
    refine ⟨(List.range len0).map f, ⟨some a, cap0, by simp, by simpa using hl, by unfold maxLen at hm; omega, fun hp => ?_⟩, fun q hq => ?_⟩
    · simp only [List.length_map, List.length_range] at hp
      obtain ⟨b, off, spot⟩ := a
      have hspot : spot = none := by simpa [Addr.add] using World.cell?_spot (hf 0 hp).1
      subst hspot
      refine ⟨b, off, rfl, ?_, fun j hj => ?_⟩
      · have := cell_lt (hf 0 hp).1
        rw [add_plain] at this
        exact this
      · simp only [List.length_map, List.length_range] at hj
        obtain ⟨h1, h2, h3, ⟨v', h4, h5⟩, h6⟩ := hf j hj
        rw [add_plain] at h1 h2 h3 h4
        rw [hgd j hj]
        exact ⟨h1, by rw [← h2]; rfl, by rw [← h3]; rfl, v', by rw [← h4]; rfl, h5⟩
    · obtain ⟨i, hi', rfl⟩ := List.mem_map.1 hq
      exact (hf i (List.mem_range.1 hi')).2.2.2.2
end
end Go.Proofs.Yticabjdcegimcaa
