/- Arguments that are claims (polynomials shown to be a matrix's own). -/
import Derived.Test.YtijpeepdedfhoaaGreatOpenMat
import Derived.Test.YtijpeepdedfhoaaGreatOpenSl
import Derived.Test.YtijpeepdedfhoaaGreatBun14
import Derived.Lib.SmallJoins
import Derived.Deep.Fields
namespace Go.Proofs.YtijpeepdedfhoaaGreat
open Go.RowKit Go.ChangeShapes Go.WideShapes Go.ChangeAt Go.Deep Go.Joins
section
variable {H : Type} {enc : TypeId × Value → H} {W : World} {base : Nat} {spare : Nat → Bool}
set_option maxRecDepth 100000 in
theorem open_Own {v : Value} {d : DataW H} {ps : List MemPlace} (hval : Value.okWide Tryz.prog W .any base 30 v) (hd : DataW.Trod enc Tryz.prog W 0 spare true 30 v d ps) :
    ∃ (fv hv sv tv uv vv : Value) (F H S T U V : List Int), v = .agg #[fv, hv, sv, tv, uv, vv] ∧ OwnR W fv hv sv tv uv vv F H S T U V ∧ OwnU F H S T U V := by
  obtain ⟨l, n, rfl, hl, hf⟩ := open_fields Tryz.underlying30 (by kernel_rfl) (by kernel_rfl) hval hd
  match l, hl with
  | [v0, v1, v2, v3, v4, v5], _ =>
    obtain ⟨y0, h0⟩ := hf 0 _ v0 rfl rfl
    obtain ⟨y1, h1⟩ := hf 1 _ v1 rfl rfl
    obtain ⟨y2, h2⟩ := hf 2 _ v2 rfl rfl
    obtain ⟨y3, h3⟩ := hf 3 _ v3 rfl rfl
    obtain ⟨y4, h4⟩ := hf 4 _ v4 rfl rfl
    obtain ⟨y5, h5⟩ := hf 5 _ v5 rfl rfl
    obtain ⟨F, iF, wF⟩ := trod_Ints Tryz.underlying23 Tryz.underlying22 (by kernel_rfl) h0
    obtain ⟨H', iH, wH⟩ := trod_Ints Tryz.underlying23 Tryz.underlying22 (by kernel_rfl) h1
    obtain ⟨S, iS, wS⟩ := trod_Ints Tryz.underlying23 Tryz.underlying22 (by kernel_rfl) h2
    obtain ⟨T, iT, wT⟩ := trod_Ints Tryz.underlying23 Tryz.underlying22 (by kernel_rfl) h3
    obtain ⟨U, iU, wU⟩ := trod_Ints Tryz.underlying23 Tryz.underlying22 (by kernel_rfl) h4
    obtain ⟨V, iV, wV⟩ := trod_Ints Tryz.underlying23 Tryz.underlying22 (by kernel_rfl) h5
    have c : ∀ l : List Int, (∀ x ∈ l, (Lit.int .u64 x).wf = true) → U64s l := fun l h x hx => by have := u64_wf (h x hx); omega
    exact ⟨v0, v1, v2, v3, v4, v5, F, H', S, T, U, V, rfl, ⟨iF, iH, iS, iT, iU, iV⟩, c _ wF, c _ wH, c _ wS, c _ wT, c _ wU, c _ wV⟩
end
end Go.Proofs.YtijpeepdedfhoaaGreat
