/- TapeRight: whatever the modulus, the tape, the number and the word, the law answers true, and nothing that was there has turned. No condition. -/
import Derived.Test.YtcganfmlfoebpaaTapeRightF
import Derived.Test.YtcganfmlfoebpaaTapeRightA
import Derived.Test.YtcganfmlfoebpaaTapeRightB
import Derived.Test.YtcganfmlfoebpaaOpenTp
namespace Go.Proofs.Ytcganfmlfoebpaa.tapeRight
open Go.ChangeShapes Go.WideShapes Go.ChangeAt Go.RowKit Go.Maps

theorem walk (p k : Int) (v : Value) (xs : List Int) (n x : Int) (w : World) (wp : (Lit.int .u64 p).wf = true) (wk : (Lit.int .i64 k).wf = true) (hv : Ints .u64 w v xs) (hx : ∀ x ∈ xs, (Lit.int .u64 x).wf = true) (wn : (Lit.int .i64 n).wf = true) (wx : (Lit.int .u64 x).wf = true) :
    Calls Try.prog 3 #[.int .u64 p, .agg #[v, .int .i64 k], .int .i64 n, .int .u64 x] w (Ret (.bool true) w) := by
  by_cases g1 : 60 < xs.length
  · exact walk_skip p k v xs n x w wp wk hv hx wn wx (.inl g1)
  by_cases g2 : 40 < n ∧ n ≤ 8192
  · exact walk_skip p k v xs n x w wp wk hv hx wn wx (.inr g2)
  cases hT : tapeB k xs with
  | false => exact walk_off p k v xs n x w wp wk hv hx wn wx (by omega) g2 (.inl hT)
  | true =>
    cases hR : rightB p with
    | false => exact walk_off p k v xs n x w wp wk hv hx wn wx (by omega) g2 (.inr hR)
    | true =>
      obtain ⟨-, K, rfl, hK⟩ := tapeB_mk hT
      have hX : U64s xs := fun x h => u64_wf (hx x h)
      by_cases g3 : n < 0 ∨ 8192 < n
      · exact walk_on_a p K v xs n x w (u64_wf wp) hv hX (i64_wf wn) g3 (u64_wf wx) (by omega) hK hR
      · obtain ⟨N, rfl⟩ := Int.eq_ofNat_of_zero_le (show 0 ≤ n by omega)
        exact walk_on_b p K v xs N x w (u64_wf wp) hv hX (by omega) (u64_wf wx) (by omega) hK hR
theorem own : ownKnob Try.prog.godebug = none := by kernel_rfl
set_option maxRecDepth 100000 in
theorem lifted (os : Os) (started : os.Started) (H : Type) (enc : TypeId × Value → H) :
    ReturnsInHanded {} Try.checked os 3 .any (Rows.tapeRightSpec.pre6 enc Try.prog Try.f3 Rows.tapeRightRow.domain false) (Rows.tapeRightSpec.post enc Try.prog Try.f3 false true false false) := by
  refine returnsInHanded_of_change (C := Try.checked) own started (by kernel_rfl) Try.func3
    (ChangeSpec.witness6 (enc := enc) (C := Try.checked) false ⟨#[], #[.int .u64 0, .agg #[.slice none 0 0, .int .i64 0], .int .i64 0, .int .u64 0], []⟩ 8 (by kernel_rfl) (by kernel_rfl) (by kernel_rfl) (by kernel_rfl)) ?_
  intro W base args ds gs before hval0 hW _ _
  have hval : ∀ (j : Nat) t v, Try.f3.params[j]? = some t → args[j]? = some v → Value.okWide Try.prog W .any base t v := hval0
  have hW' := hW
  obtain ⟨p, q, hA0, hV, rfl, _, _⟩ := hW
  have hA : DataW.TrodAll enc Try.prog W 0 (fun _ => true) true Try.f3.params.toList args.toList ds p := hA0
  rw [Try.params3] at hA hval
  obtain ⟨v0, vs0, d0, ds0, p0, q0, hargs, rfl, rfl, h0, r0⟩ := trodAll_cons hA
  obtain ⟨v1, vs1, d1, ds1, p1, q1, rfl, rfl, rfl, h1, r1⟩ := trodAll_cons r0
  obtain ⟨v2, vs2, d2, ds2, p2, q2, rfl, rfl, rfl, h2, r2⟩ := trodAll_cons r1
  obtain ⟨v3, vs3, d3, ds3, p3, q3, rfl, rfl, rfl, h3, r3⟩ := trodAll_cons r2
  obtain ⟨rfl, rfl, rfl⟩ := trodAll_nil r3
  obtain rfl : args = #[v0, v1, v2, v3] := by cases args; simp_all
  obtain ⟨rfl, rfl⟩ := trodVars_none hV
  obtain ⟨a0, rfl, rfl, rfl, w0⟩ := open_int Try.underlying22 (hval 0 22 v0 rfl rfl) h0
  obtain ⟨tu1, xs1, tk1, rfl, i1, w1, wk1⟩ := open_Tape (hval 1 25 v1 rfl rfl) h1
  obtain ⟨a2, rfl, rfl, rfl, w2⟩ := open_int Try.underlying3 (hval 2 3 v2 rfl rfl) h2
  obtain ⟨a3, rfl, rfl, rfl, w3⟩ := open_int Try.underlying22 (hval 3 22 v3 rfl rfl) h3
  refine (walk a0 tk1 tu1 xs1 a2 a3 W w0 wk1 i1 w1 w2 w3).mono fun e W' ⟨he, hg⟩ => ⟨_, he, ?_⟩
  exact law_post (by kernel_rfl) (by kernel_rfl) rfl Try.underlying4 rfl rfl hW' hg

/-- the statement -/
theorem proved : Rows.TapeRightSaid :=
  OpenClaim.holds_of_wide 3 Try.f3 rfl rfl rfl rfl rfl rfl rfl ⟨rfl, rfl, rfl, rfl, rfl⟩ rfl rfl rfl rfl rfl (by kernel_rfl) Try.func3 (by kernel_rfl)
    (of_decide_eq_true (by kernel_rfl)) (by unfold Func.isWrapper; first | (rw [if_pos (by decide +kernel)]; kernel_rfl) | (rw [if_neg (by decide +kernel)]; exact ⟨rfl, rfl⟩))
    (fun os started H enc _ => lifted os started H enc)
end Go.Proofs.Ytcganfmlfoebpaa.tapeRight
