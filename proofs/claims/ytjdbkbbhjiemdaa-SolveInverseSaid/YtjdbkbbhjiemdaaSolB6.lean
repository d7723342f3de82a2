/- What the texts SvC, CupA, SvA show, in one text. -/
import Derived.Test.YtjdbkbbhjiemdaaSolB5
import Derived.Test.YtjdbkbbhjiemdaaSolB2
import Derived.Test.YtjdbkbbhjiemdaaCm6
import Derived.Test.YtjdbkbbhjiemdaaCupB5
import Derived.Test.YtjdbkbbhjiemdaaSolB1
/- What the functions of package solve answer: Sv1 to SvN show it of the program. -/
namespace Go.Proofs.Ytjdbkbbhjiemdaa
open Go.RowKit

/-- what is against is the first of those that are -/
theorem AgOf.of {p : Int} {m n : Nat} {xs b : List Int} (ok : MatOk p m n xs) (hf : Fld p) (hb : b.length = m) (hr : Rng p b) (h : ¬ ∃ x, IsX p m n xs b x) : ∃ y, AgOf p m n xs b y := by
  have hex : ∃ i, ∃ y, i < m ∧ i ∉ (takeL p m n xs).rows ∧ IsY p m n xs i y ∧ dotF m (atV y) (atV b) % p ≠ 0 := by
    refine Classical.byContradiction fun hn => h (IsX.or ok hf hb hr fun i y hi hc hy => Classical.byContradiction fun hne => hn ⟨i, y, hi, hc, hy, hne⟩)
  obtain ⟨i, ⟨y, h1, h2, h3, h4⟩, h5⟩ : ∃ i, (∃ y, i < m ∧ i ∉ (takeL p m n xs).rows ∧ IsY p m n xs i y ∧ dotF m (atV y) (atV b) % p ≠ 0) ∧ ∀ k, k < i → ¬ ∃ y, k < m ∧ k ∉ (takeL p m n xs).rows ∧ IsY p m n xs k y ∧ dotF m (atV y) (atV b) % p ≠ 0 := by
    obtain ⟨i, hi⟩ := hex
    induction i using Nat.strongRecOn with
    | ind i ih =>
      by_cases hk : ∃ k, k < i ∧ ∃ y, k < m ∧ k ∉ (takeL p m n xs).rows ∧ IsY p m n xs k y ∧ dotF m (atV y) (atV b) % p ≠ 0
      · obtain ⟨k, hki, hk⟩ := hk
        exact ih k hki hk
      · exact ⟨i, hi, fun k hki hk' => hk ⟨k, hki, hk'⟩⟩
  exact ⟨y, i, h1, h2, h3, h4, fun k z hk hc hz => Classical.byContradiction fun hne => h5 k hk ⟨z, by omega, hc, hz, hne⟩⟩
theorem AgOf.none {p : Int} {m n : Nat} {xs b : List Int} {x : List Int} (h : IsX p m n xs b x) : ¬ ∃ y, AgOf p m n xs b y := fun ⟨_, _, _, _, hy, hne, _⟩ => hne (h.none hy)
end Go.Proofs.Ytjdbkbbhjiemdaa
/- The matrix of layer 7's first look, taken apart by hand (in plain Lean; nothing of a program). -/
namespace Go.Proofs.Ytjdbkbbhjiemdaa

def xs7 : List Int := [0, 2, 3, 4]
theorem fld7 : Fld 7 := fun a h0 h1 => by
  have : a = 1 ∨ a = 2 ∨ a = 3 ∨ a = 4 ∨ a = 5 ∨ a = 6 := by omega
  rcases this with rfl | rfl | rfl | rfl | rfl | rfl <;> decide
theorem ok7 : MatOk 7 2 2 xs7 := ⟨by decide, by unfold Rng xs7; decide, by decide, by decide, rfl⟩
theorem det7 : detF 2 (atF 2 xs7) % 7 = 1 := by decide
theorem rank7 : (takeL 7 2 2 xs7).U.length = 2 := by
  have h := det_rank (n := 2) (xs := xs7) (p := 7) (by decide) fld7 ok7.hx
  rw [det7] at h
  exact Classical.byContradiction fun hn => absurd (h.2 hn) (by decide)
theorem rows7 : (takeL 7 2 2 xs7).rows = [0, 1] := by
  have h := takeL_ok (p := 7) (m := 2) (n := 2) (xs := xs7) (by decide) fld7 ok7.hx
  have hl : (takeL 7 2 2 xs7).rows.length = 2 := by rw [h.lr, rank7]
  have hi := inc_id hl h.inc h.low
  match e : (takeL 7 2 2 xs7).rows, hl with
  | [a, b], _ =>
    have h0 := hi 0 (by decide)
    have h1 := hi 1 (by decide)
    rw [e] at h0 h1
    have h0 : a = 0 := h0
    have h1 : b = 1 := h1
    rw [h0, h1]
theorem prof7 : profZ 7 2 2 xs7 = [0, 1] := by unfold profZ; rw [rows7]; rfl
theorem cols7 : ∃ c, colsZ (takeL 7 2 2 xs7) = [1, c] := by
  have h := takeL_ok (p := 7) (m := 2) (n := 2) (xs := xs7) (by decide) fld7 ok7.hx
  have hl : (takeL 7 2 2 xs7).cols.length = 2 := by rw [h.lk, rank7]
  have h0 : (takeL 7 2 2 xs7).cols.getD 0 0 = 1 := by
    have hr := h.row 0 (by rw [rank7]; decide)
    have ho := h.one 0 (by rw [rows7]; decide)
    rw [rows7] at ho
    have hm := h.made 0 (by decide) 0 (by decide)
    have e0 : ([0, 1] : List Nat).getD 0 0 = 0 := rfl
    rw [e0] at ho
    rw [ho.1, show sm (0 + 1) (fun t => ((takeL 7 2 2 xs7).C.getD 0 []).getD t 0 * ((takeL 7 2 2 xs7).U.getD t []).getD 0 0) = ((takeL 7 2 2 xs7).C.getD 0 []).getD 0 0 * ((takeL 7 2 2 xs7).U.getD 0 []).getD 0 0 by simp [sm], ho.2, Int.one_mul] at hm
    have e1 : (rowOf 2 xs7 0).getD 0 0 = 0 := by decide
    rw [e1] at hm
    have hg := hr.2.1.getD (by decide) 0
    rw [mod_small hg.1 hg.2] at hm
    have hne := hr.2.2.2.2.2
    have hlt := hr.2.2.1
    rcases Nat.lt_or_ge ((takeL 7 2 2 xs7).cols.getD 0 0) 1 with hc | hc
    · have : (takeL 7 2 2 xs7).cols.getD 0 0 = 0 := by omega
      rw [this] at hne
      exact absurd hm.symm hne
    · omega
  match e : (takeL 7 2 2 xs7).cols, hl with
  | [a, b], _ =>
    rw [e] at h0
    have h0 : a = 1 := h0
    exact ⟨(b : Int), by unfold colsZ; rw [e, h0]; rfl⟩
theorem minor7 : minorL 7 2 2 xs7 = xs7 := by
  have h := takeL_ok (p := 7) (m := 2) (n := 2) (xs := xs7) (by decide) fld7 ok7.hx
  have hl : (risL 2 (takeL 7 2 2 xs7).cols).length = 2 := by rw [risL_len h.cols_nodup fun c hc => h.cols_lt hc, h.lk, rank7]
  have e : risL 2 (takeL 7 2 2 xs7).cols = List.range 2 := List.filter_sublist.eq_of_length (by rw [List.length_range]; exact hl)
  unfold minorL
  rw [rank7, rows7, e]
  decide
theorem make7 (r : Nat) : makeL 7 ((takeL 7 2 2 xs7).C.map (padL r)) (takeL 7 2 2 xs7).U 2 2 = xs7 := make_take (by decide) fld7 ok7.hx rfl (by decide) r
end Go.Proofs.Ytjdbkbbhjiemdaa
/- The matrices of layer 8's first look, taken apart by hand (in plain Lean; nothing of a program). -/
namespace Go.Proofs.Ytjdbkbbhjiemdaa

def xs8 : List Int := [1, 2, 2, 4]
theorem ok8 : MatOk 7 2 2 xs8 := ⟨by decide, by unfold Rng xs8; decide, by decide, by decide, rfl⟩
theorem take8 : takeL 7 2 2 xs8 = ⟨[[1], [2]], [0], [0], [[1, 2]]⟩ := by
  have hm : minv 7 1 = 1 := minv_eq (by decide) (by decide) (by decide)
  have s0 : stepE 7 2 .nil 0 (rowOf 2 xs8 0) = some ⟨[[1]], [0], [0], [[1, 2]]⟩ := by
    unfold stepE
    simp only [ElE.nil, List.length_nil, elimE]
    rw [if_pos (by decide), if_pos (by decide)]
    rfl
  have hq : mulE 7 [1, 2] 0 (rowOf 2 xs8 1) = 2 := by
    unfold mulE
    rw [show ([1, 2] : List Int).getD 0 0 = 1 from rfl, hm]
    decide
  have hr : restE 7 2 [1, 2] 0 (rowOf 2 xs8 1) = [0, 0] := by
    unfold restE
    rw [hq]
    decide
  have he : elimE 7 2 [[1, 2]] [0] (rowOf 2 xs8 1) 1 = ([2], [0, 0]) := by
    show (([] : List Int) ++ [mulE 7 [1, 2] 0 (rowOf 2 xs8 1)], restE 7 2 [1, 2] 0 (rowOf 2 xs8 1)) = _
    rw [hq, hr]; rfl
  have s1 : stepE 7 2 ⟨[[1]], [0], [0], [[1, 2]]⟩ 1 (rowOf 2 xs8 1) = some ⟨[[1], [2]], [0], [0], [[1, 2]]⟩ := by
    unfold stepE
    simp only [List.length_cons, List.length_nil, Nat.zero_add]
    rw [he, if_neg (by decide)]
    rfl
  unfold takeL
  simp only [takeE, Option.bind_some, s0, s1, Option.getD_some]
theorem sol8 : IsX 7 2 2 xs8 [1, 2] [1, 0] := by
  refine ⟨rfl, by unfold Rng; decide, by decide, fun j hj hc => ?_⟩
  rw [take8] at hc
  have : j = 0 ∨ j = 1 := by omega
  rcases this with rfl | rfl
  · exact absurd (by decide) hc
  · rfl
theorem y8 : IsY 7 2 2 xs8 1 [5, 1] := by
  refine ⟨rfl, by unfold Rng; decide, by decide, rfl, fun j hj hc hne => ?_⟩
  rw [take8] at hc
  have : j = 0 := by omega
  subst this
  exact absurd (by decide) hc
theorem ag8 : AgOf 7 2 2 xs8 [1, 3] [5, 1] := by
  refine ⟨1, by decide, by rw [take8]; decide, y8, by decide, fun k z hk hc => ?_⟩
  rw [take8] at hc
  have : k = 0 := by omega
  subst this
  exact absurd (by decide) hc
theorem le8 : LeOf 7 2 2 xs8 [5, 1] := by
  refine ⟨1, by decide, by rw [take8]; decide, y8, fun k hk => ?_⟩
  rw [take8]
  have : k = 0 := by omega
  subst this
  decide
theorem k8 : IsK 7 2 2 xs8 [5, 1] := by
  have hf : freeC 2 (takeL 7 2 2 xs8).cols = 1 := by rw [take8]; decide
  refine ⟨rfl, by unfold Rng; decide, by decide, by rw [hf]; rfl, fun j hj hc hne => ?_⟩
  rw [hf] at hne
  rw [take8] at hc
  have : j = 0 := by omega
  subst this
  exact absurd (by decide) hc
theorem ok8i : MatOk 7 1 1 [3] := ⟨by decide, by unfold Rng; decide, by decide, by decide, rfl⟩
theorem inv8 : IsInv 7 1 [3] [5] := ⟨rfl, by unfold Rng; decide, by decide⟩
theorem rank8i : (takeL 7 1 1 [3]).U.length = 1 := by
  have h := det_rank (n := 1) (xs := [3]) (p := 7) (by decide) fld7 ok8i.hx
  have e : detF 1 (atF 1 [3]) % 7 = 3 := by decide
  rw [e] at h
  exact Classical.byContradiction fun hn => absurd (h.2 hn) (by decide)
end Go.Proofs.Ytjdbkbbhjiemdaa
