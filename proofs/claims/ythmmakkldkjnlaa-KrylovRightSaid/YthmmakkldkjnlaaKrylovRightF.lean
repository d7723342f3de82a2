/- KrylovRight: whatever the number, the matrix, the vector, the polynomial and how many, the law answers true, and nothing that was there has turned. No condition. -/
import Derived.Test.YthmmakkldkjnlaaKrylovRightS
import Derived.Test.YthmmakkldkjnlaaKrylovRightN
import Derived.Test.YthmmakkldkjnlaaKrylovRightH
import Derived.Test.YthmmakkldkjnlaaKrylovRightY0
import Derived.Test.YthmmakkldkjnlaaKrylovRightY1
import Derived.Test.YthmmakkldkjnlaaOpenMat
namespace Go.Proofs.Ythmmakkldkjnlaa.krylovRight
open Go.ChangeShapes Go.WideShapes Go.ChangeAt Go.RowKit Go.Maps

theorem walk (p r c : Int) (v : Value) (xs : List Int) (u : Value) (b : List Int) (vf : Value) (f : List Int) (many : Int) (w : World) (wp : (Lit.int .u64 p).wf = true) (_wr : (Lit.int .i64 r).wf = true) (_wc : (Lit.int .i64 c).wf = true) (hv : Ints .u64 w v xs) (hx : ∀ x ∈ xs, (Lit.int .u64 x).wf = true) (hu : Ints .u64 w u b) (hb : ∀ x ∈ b, (Lit.int .u64 x).wf = true) (hfv : Ints .u64 w vf f) (hf : ∀ x ∈ f, (Lit.int .u64 x).wf = true) (_wm : (Lit.int .i64 many).wf = true) :
    Calls Try.prog 3 #[.int .u64 p, .agg #[.int .i64 r, .int .i64 c, v], u, vf, .int .i64 many] w (Ret (.bool true) w) := by
  have hp := u64_wf wp
  have hX : U64s xs := fun x h => u64_wf (hx x h)
  have hB : U64s b := fun x h => u64_wf (hb x h)
  have hF : U64s f := fun x h => u64_wf (hf x h)
  by_cases g : 25 < xs.length ∨ 10 < b.length ∨ 10 < f.length ∨ (12 < many ∧ many ≤ 200) ∨ takenB p = false
  · exact walk_skip p r c v u vf xs b f many w hp.1 hv hu hfv g
  · have g1 : ¬ 25 < xs.length := fun h => g (.inl h)
    have g2 : ¬ 10 < b.length := fun h => g (.inr (.inl h))
    have g3 : ¬ 10 < f.length := fun h => g (.inr (.inr (.inl h)))
    have g4 : ¬ (12 < many ∧ many ≤ 200) := fun h => g (.inr (.inr (.inr (.inl h))))
    have g5 : takenB p = true := by
      cases h : takenB p
      · exact absurd (.inr (.inr (.inr (.inr h)))) g
      · rfl
    cases hs : squareB p r c xs with
    | false => exact walk_n p r c v u vf xs b f many w hp.1 hp.2 g5 hX hB hF (by omega) (by omega) (by omega) hv hu hfv g4 hs
    | true =>
      obtain ⟨n, rfl, rfl, ok⟩ := squareB_of hX hs
      cases hvb : vecB p n b with
      | false => exact walk_h p n v u vf xs b f many w hp.1 hp.2 g5 hX hB hF (by omega) (by omega) (by omega) hv hu hfv g4 ok hvb
      | true =>
        by_cases gm : many < 0 ∨ 200 < many
        · exact walk_y0 p n v u vf xs b f many w hp.1 hp.2 g5 hX hB hF (by omega) (by omega) (by omega) hv hu hfv ok hvb gm
        · obtain ⟨m, rfl⟩ := Int.eq_ofNat_of_zero_le (show 0 ≤ many by omega)
          exact walk_y1 p n m v u vf xs b f w hp.1 hp.2 g5 hX hB hF (by omega) (by omega) (by omega) hv hu hfv ok hvb (by omega)
theorem own : ownKnob Try.prog.godebug = none := by kernel_rfl
set_option maxRecDepth 100000 in
theorem lifted (os : Os) (started : os.Started) (H : Type) (enc : TypeId × Value → H) :
    ReturnsInHanded {} Try.checked os 3 .any (Rows.krylovRightSpec.pre6 enc Try.prog Try.f3 Rows.krylovRightRow.domain false) (Rows.krylovRightSpec.post enc Try.prog Try.f3 false true false false) := by
  refine returnsInHanded_of_change (C := Try.checked) own started (by kernel_rfl) Try.func3
    (ChangeSpec.witness6 (enc := enc) (C := Try.checked) false ⟨#[], #[.int .u64 0, .agg #[.int .i64 0, .int .i64 0, .slice none 0 0], .slice none 0 0, .slice none 0 0, .int .i64 0], []⟩ 8 (by kernel_rfl) (by kernel_rfl) (by kernel_rfl) (by kernel_rfl)) ?_
  intro W base args ds gs before hval0 hW _ _
  have hval : ∀ (j : Nat) t v, Try.f3.params[j]? = some t → args[j]? = some v → Value.okWide Try.prog W .any base t v := hval0
  have hW' := hW
  obtain ⟨p, q, hA0, hV, rfl, _, _⟩ := hW
  have hA : DataW.TrodAll enc Try.prog W 0 (fun _ => true) true Try.f3.params.toList args.toList ds p := hA0
  rw [Try.params3] at hA hval
  obtain ⟨v0, vs0, d0, ds0, p0, q0, hargs, rfl, rfl, h0, r0⟩ := trodAll_cons hA
  obtain ⟨v1, vs1, d1, ds1, p1, q1, rfl, rfl, rfl, h1, r1⟩ := trodAll_cons r0
  obtain ⟨v2, vs2, d2, ds2, p2, q2, rfl, rfl, rfl, h2, r2⟩ := trodAll_cons r1
  obtain ⟨v3, vs3, d3, ds3, p3, q3, rfl, rfl, rfl, h3, r3⟩ := trodAll_cons r2
  obtain ⟨v4, vs4, d4, ds4, p4, q4, rfl, rfl, rfl, h4, r4⟩ := trodAll_cons r3
  obtain ⟨rfl, rfl, rfl⟩ := trodAll_nil r4
  obtain rfl : args = #[v0, v1, v2, v3, v4] := by cases args; simp_all
  obtain ⟨rfl, rfl⟩ := trodVars_none hV
  obtain ⟨a0, rfl, rfl, rfl, w0⟩ := open_int Try.underlying22 (hval 0 22 v0 rfl rfl) h0
  obtain ⟨mr1, mc1, mu1, xs1, rfl, wr1, wc1, i1, w1⟩ := open_Mat (hval 1 25 v1 rfl rfl) h1
  obtain ⟨xs2, i2, w2⟩ := open_Ints Try.underlying23 Try.underlying22 (by kernel_rfl) (hval 2 23 v2 rfl rfl) h2
  obtain ⟨xs3, i3, w3⟩ := open_Ints Try.underlying23 Try.underlying22 (by kernel_rfl) (hval 3 23 v3 rfl rfl) h3
  obtain ⟨a4, rfl, rfl, rfl, w4⟩ := open_int Try.underlying3 (hval 4 3 v4 rfl rfl) h4
  refine (walk a0 mr1 mc1 mu1 xs1 v2 xs2 v3 xs3 a4 W w0 wr1 wc1 i1 w1 i2 w2 i3 w3 w4).mono fun e W' ⟨he, hg⟩ => ⟨_, he, ?_⟩
  exact law_post (by kernel_rfl) (by kernel_rfl) rfl Try.underlying4 rfl rfl hW' hg

/-- the statement -/
theorem proved : Rows.KrylovRightSaid :=
  OpenClaim.holds_of_wide 3 Try.f3 rfl rfl rfl rfl rfl rfl rfl ⟨rfl, rfl, rfl, rfl, rfl⟩ rfl rfl rfl rfl rfl (by kernel_rfl) Try.func3 (by kernel_rfl)
    (of_decide_eq_true (by kernel_rfl)) (by unfold Func.isWrapper; first | (rw [if_pos (by decide +kernel)]; kernel_rfl) | (rw [if_neg (by decide +kernel)]; exact ⟨rfl, rfl⟩))
    (fun os started H enc _ => lifted os started H enc)
end Go.Proofs.Ythmmakkldkjnlaa.krylovRight
