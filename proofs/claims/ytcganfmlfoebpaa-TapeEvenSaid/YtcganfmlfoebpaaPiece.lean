/- Pieces of slices, and dot products of pieces. -/
import Derived.Test.YtcganfmlfoebpaaPolM
import Derived.Test.YtcganfmlfoebpaaKit
import Derived.Test.YtcganfmlfoebpaaDot
namespace Go.Proofs.Ytcganfmlfoebpaa
open Go.RowKit

/-- a piece of a slice, where neither end is out of it and its begin isn't its capacity's -/
theorem slice_run (b off len cap lo hi : Nat) (h1 : lo ≤ hi) (h2 : hi ≤ cap) (h3 : lo < cap) (w : World) :
    (Instr.slice 23 (.slice (some ⟨b, off, none⟩) len cap) (some (.int .i64 (lo : Int))) (some (.int .i64 (hi : Int))) none).run Try.prog w = .ok (.slice (some ⟨b, off + lo, none⟩) (hi - lo) (cap - lo)) w := by
  have hu : Try.prog.underlying 23 = some (.slice (Try.prog.elem 23)) := by kernel_rfl
  have hs : ((sizeOf (Try.prog.elem 23)).run Try.prog w) = .ok 1 w := by kernel_rfl
  rw [run_slice_lh w 23 _ len cap hu .i64 .i64 lo hi (by omega) (by omega) (by omega), hs]
  simp only [Result.andThen, sliced, Int.toNat_natCast]
  rw [if_neg (by omega)]
  simp [Go.WideShapes.add_plain]
theorem slice_run' (b off len cap lo hi : Nat) (h1 : lo ≤ hi) (h2 : hi ≤ cap) (h3 : lo < cap) (w : World) :
    (Instr.sliceAt 23 (.slice (some ⟨b, off, none⟩) len cap) (some (.int .i64 (lo : Int))) (some (.int .i64 (hi : Int))) none).run Try.prog w = .ok (.slice (some ⟨b, off + lo, none⟩) (hi - lo) (cap - lo)) w := by
  have hu : Try.prog.underlying 23 = some (.slice (Try.prog.elem 23)) := by kernel_rfl
  rw [run_sliceAt_slice w 23 _ _ _ _ hu]
  exact slice_run b off len cap lo hi h1 h2 h3 w
theorem Ints.sub {k : IntKind} {w : World} {b off m cap : Nat} {xs : List Int} (h : Ints k w (.slice (some ⟨b, off, none⟩) m cap) xs) (lo n : Nat) (hn : lo + n ≤ xs.length) (h0 : 0 < n) :
    Ints k w (.slice (some ⟨b, off + lo, none⟩) n (cap - lo)) ((xs.drop lo).take n) := by
  obtain ⟨a, cap', e, h1, h2, h3⟩ := h
  injection e with e1 e2 e3
  subst e1; subst e3
  obtain ⟨b', off', ha, hb, hc⟩ := h3 (by omega)
  injection ha with ha
  injection ha with e4 e5
  subst e4; subst e5
  have hl : ((xs.drop lo).take n).length = n := by simp; omega
  refine ⟨_, cap - lo, by rw [hl], by omega, by omega, fun _ => ⟨b, off + lo, rfl, hb, fun j hj => ?_⟩⟩
  rw [Nat.add_assoc, hc (lo + j) (by omega)]
  simp [List.getD, show j < n by omega]

theorem sub_get (xs : List Int) (lo n j : Nat) (hj : j < n) : ((xs.drop lo).take n).getD j 0 = xs.getD (lo + j) 0 := by
  simp [List.getD, hj]
theorem dotZ_sm : ∀ xs ys : List Int, xs.length = ys.length → dotZ xs ys = sm xs.length fun i => xs.getD i 0 * ys.getD i 0
  | [], [], _ => rfl
  | [], _ :: _, h => by simp at h
  | _ :: _, [], h => by simp at h
  | x :: xs, y :: ys, h => by
    rw [List.length_cons, sm_head, dotZ, dotZ_sm xs ys (by simpa using h)]
    simp
end Go.Proofs.Ytcganfmlfoebpaa
