/- What the walks of layer 9's laws share. -/
import Derived.Test.YthmmakkldkjnlaaBun25
import Derived.Test.YthmmakkldkjnlaaOpenMat
import Derived.Test.YthmmakkldkjnlaaBun13
import Derived.Test.YthmmakkldkjnlaaDiv
import Derived.Test.YthmmakkldkjnlaaBun20
import Derived.Test.YthmmakkldkjnlaaBun22
namespace Go.Proofs.Ythmmakkldkjnlaa
open Go.RowKit Go.Maps

/-- numbers that lie at a slice's begin -/
def At0 (w : World) (a : Option Addr) (n : Nat) (x : List Int) : Prop := 0 < n → ∃ b off, a = some ⟨b, off, none⟩ ∧ b < w.heap.size ∧ ∀ j, j < n → w.cell? ⟨b, off + j, none⟩ = some (.int .u64 (x.getD j 0))
theorem At0.ext {w w' : World} {a : Option Addr} {n : Nat} {x : List Int} (h : At0 w a n x) (he : Ext w w') : At0 w' a n x := fun hn => by
  obtain ⟨b, off, e, hb, hc⟩ := h hn
  exact ⟨b, off, e, Nat.lt_of_lt_of_le hb he.size, fun j hj => (he.cells _ _ hb).trans (hc j hj)⟩
theorem partsV {w : World} {v : Value} {x : List Int} {n : Nat} (h : Ints .u64 w v x) (hl : x.length = n) : ∃ a cap, v = .slice a n cap ∧ At0 w a n x := by
  obtain ⟨a, cap, rfl, _, _, h3⟩ := h
  subst hl
  exact ⟨a, cap, rfl, h3⟩
theorem len_sum {p : Int} {f g s : List Int} (hs : Pol p s) (e : pol p s = pol p f + pol p g) (hf : f.length ≤ 12) (hg : g.length ≤ 12) : s.length ≤ 12 :=
  hs.len_le (by rw [e]; exact ((pol_low f).mono hf).add ((pol_low g).mono hg))
theorem len_prod {p : Int} {f g s : List Int} (hs : Pol p s) (e : pol p s = pol p f * pol p g) (hf : f.length ≤ 12) (hg : g.length ≤ 12) : s.length ≤ 24 :=
  hs.len_le (by rw [e]; exact (((pol_low f).mono hf).mul ((pol_low g).mono hg)).mono (by omega))
theorem polRight_of {p : Int} {xs : List Int} (hx : U64s xs) (h : rightPB p xs = true) : rightB p = true ∧ Pol p xs ∧ xs.length ≤ 512 := (rightPB_iff hx).1 h
/-- what is left by an own polynomial is nothing just if 0 is made -/
theorem own_rest {p : Int} {n : Nat} {A : Nat → RowF} {V : RowF → Prop} {g qs rs : List Int} {F : Ser p} (hp : 2 ≤ p) (h : IsOwn p n A V g) (hr : Pol p rs) (e : F = pol p qs * pol p g + pol p rs) (hl : rs.length < g.length) : (∀ v, V v → Kil p n A F v) ↔ rs = [] := by
  constructor
  · intro hk
    refine hr.zero (h.less hp (fun k hk' => pol_low rs k (by omega)) fun v hv => ?_)
    have h2 := (hk v hv).sub ((h.kil v hv).mul (pol_poly qs))
    rwa [Ser.sub_eq (e.trans (Ser.add_comm _ _))] at h2
  · intro e0 v hv
    rw [e, e0, pol_nil, Ser.add_zero]
    exact (h.kil v hv).mul (pol_poly qs)
theorem own_vec {p : Int} {n : Nat} {xs b f : List Int} : (∀ v, (fun u => u = atV b) v → Kil p n (atF n xs) (pol p f) v) ↔ pdoL p n xs f b = List.replicate n 0 := by
  rw [pdoL_kil]
  exact ⟨fun h => h _ rfl, fun h v e => e ▸ h⟩
theorem min_vec {p : Int} {n : Nat} {xs f : List Int} : (∀ v, (fun v => ∃ i, i < n ∧ v = uniF i) v → Kil p n (atF n xs) (pol p f) v) ↔ ∀ i, i < n → pdoL p n xs f (unitL n i) = List.replicate n 0 := by
  constructor
  · intro h i hi
    exact pdoL_kil.2 ((h _ ⟨i, hi, rfl⟩).congr unitL_at)
  · rintro h v ⟨i, hi, rfl⟩
    exact (pdoL_kil.1 (h i hi)).congr unitL_at.symm
theorem unit_set {n i : Nat} (hi : i < n) : (List.replicate n (0 : Int)).set i 1 = unitL n i := by
  refine list_ext (by rw [List.length_set, List.length_replicate, unitL, tab_len]) fun k hk => ?_
  rw [List.length_set, List.length_replicate] at hk
  rw [set_get _ _ _ _ (by rw [List.length_replicate]; exact hi), replicate_get, unitL, tab_get _ hk]
  by_cases e : i = k
  · rw [if_pos e, if_pos e.symm]
  · rw [if_neg e, if_neg (fun h => e h.symm)]
theorem unit_len (n i : Nat) : (unitL n i).length = n := tab_len _ _
theorem unit_rng {p : Int} (hp : 2 ≤ p) (n i : Nat) : Rng p (unitL n i) := tab_rng fun k _ => by split <;> omega
theorem unit_one {p : Int} (hF : Fld p) (hp : 2 ≤ p) {g : List Int} (h : lead g = 1) : unitB p (lead g) = true := hF _ (by rw [h]; omega) (by rw [h]; omega)
theorem lead_get {g : List Int} (h : lead g = 1) (h0 : g ≠ []) : ∃ k, g.length = k + 1 ∧ g.getD k 0 = 1 := by
  have := List.length_pos_iff.2 h0
  exact ⟨g.length - 1, by omega, h⟩
end Go.Proofs.Ythmmakkldkjnlaa
