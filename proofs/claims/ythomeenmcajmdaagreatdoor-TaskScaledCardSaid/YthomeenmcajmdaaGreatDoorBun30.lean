import Derived.Test.YthomeenmcajmdaaGreatDoorBun21
import Derived.Test.YthomeenmcajmdaaGreatDoorBun23
import Derived.Test.YthomeenmcajmdaaGreatDoorBun06
namespace Go.Proofs.YthomeenmcajmdaaGreatDoor
variable {p : Int} {m n : Nat} {xs zs : List Int}
theorem Comb.scale {r : Nat} {u : Nat → RowF} {v : RowF} (h : Comb p n r u v) (a : Int) : Comb p n r u fun j => a * v j := by
  have := h.add (Comb.zero u) a 0
  exact this.congr fun j _ => by rw [Int.mul_zero, Int.add_zero]
def Scaled (p : Int) (m n i : Nat) (c : Int) (xs zs : List Int) : Prop := ∀ a b, a < m → b < n → zs.getD (a * n + b) 0 = if a = i then xs.getD (i * n + b) 0 * c % p else xs.getD (a * n + b) 0
theorem atF_at {i j : Nat} : atF n xs i j = xs.getD (i * n + j) 0 := rfl
theorem rank_scaled (hp : 2 ≤ p) (hf : Fld p) (hx : Rng p xs) (hz : Rng p zs) {i : Nat} {c d : Int} (hcd : c * d % p = 1) (h : Scaled p m n i c xs zs) : (takeL p m n zs).U.length = (takeL p m n xs).U.length := by
  have hi := hf.has hp
  have B1 := (takeL_ok (m := m) (n := n) hp hf hx).bas hi
  have B2 := (takeL_ok (m := m) (n := n) hp hf hz).bas hi
  refine Nat.le_antisymm (B2.le hi B1 fun a ha => ?_) (B1.le hi B2 fun a ha => ?_)
  · by_cases e : a = i
    · refine ((Comb.one (p := p) (n := n) (r := m) (fun i => lf (rowOf n xs i)) ha).scale c).congr fun j hj => ?_
      rw [lf_row hj, lf_row hj, atF_at, atF_at, h a j ha hj, if_pos e, e, Int.emod_emod, Int.mul_comm]
    · refine (Comb.one (p := p) (n := n) (r := m) (fun i => lf (rowOf n xs i)) ha).congr fun j hj => ?_
      rw [lf_row hj, lf_row hj, atF_at, atF_at, h a j ha hj, if_neg e]
  · by_cases e : a = i
    · refine ((Comb.one (p := p) (n := n) (r := m) (fun i => lf (rowOf n zs i)) ha).scale d).congr fun j hj => ?_
      rw [lf_row hj, lf_row hj, atF_at, atF_at, h a j ha hj, if_pos e, e]
      generalize xs.getD (i * n + j) 0 = y
      rw [mm_r, show d * (y * c) = y * (c * d) by grind, ← mm_r, hcd, Int.mul_one]
    · refine (Comb.one (p := p) (n := n) (r := m) (fun i => lf (rowOf n zs i)) ha).congr fun j hj => ?_
      rw [lf_row hj, lf_row hj, atF_at, atF_at, h a j ha hj, if_neg e]
theorem prof_same (hp : 2 ≤ p) (hf : Fld p) (hx : Rng p xs) (hz : Rng p zs) (h : ∀ k, k ≤ m → (takeL p k n (zs.take (k * n))).U.length = (takeL p k n (xs.take (k * n))).U.length) :
    ∀ k, k ≤ m → (takeL p k n (zs.take (k * n))).rows = (takeL p k n (xs.take (k * n))).rows
  | 0, _ => by
    have h1 := takeL_ok (m := 0) (n := n) hp hf (hx.take (0 * n))
    have h2 := takeL_ok (m := 0) (n := n) hp hf (hz.take (0 * n))
    have l1 : (takeL p 0 n (xs.take (0 * n))).rows.length = 0 := by have := h1.lr; have := h1.le; omega
    have l2 : (takeL p 0 n (zs.take (0 * n))).rows.length = 0 := by have := h2.lr; have := h2.le; omega
    rw [List.eq_nil_of_length_eq_zero l1, List.eq_nil_of_length_eq_zero l2]
  | k + 1, hk => by
    have ih := prof_same hp hf hx hz h k (by omega)
    have key : ∀ {ys : List Int}, Rng p ys → ∃ t, (takeL p (k + 1) n (ys.take ((k + 1) * n))).rows = (takeL p k n (ys.take (k * n))).rows ++ t ∧ (∀ x ∈ t, x = k) ∧ (takeL p (k + 1) n (ys.take ((k + 1) * n))).rows.length = (takeL p (k + 1) n (ys.take ((k + 1) * n))).U.length := by
      intro ys hy
      obtain ⟨t, e, ht⟩ := profile_prefix (m := k + 1) (n := n) hp hf (hy.take ((k + 1) * n)) (k := k) (by omega)
      rw [List.take_take, Nat.min_eq_left (Nat.mul_le_mul_right n (by omega))] at e
      have ok := takeL_ok (m := k + 1) (n := n) hp hf (hy.take ((k + 1) * n))
      refine ⟨t, e, fun x hx => ?_, ok.lr⟩
      have hm : x ∈ (takeL p (k + 1) n (ys.take ((k + 1) * n))).rows := by rw [e]; exact List.mem_append_right _ hx
      obtain ⟨j, hj, e2⟩ := List.mem_iff_getElem.1 hm
      have := ok.low j hj
      rw [List.getD, List.getElem?_eq_getElem hj] at this
      have h3 := ht x hx
      simp only [Option.getD_some] at this
      omega
    obtain ⟨t, e1, t1, l1⟩ := key hx
    obtain ⟨s, e2, s1, l2⟩ := key hz
    have hl := h (k + 1) hk
    have hls : s.length = t.length := by
      have a1 := congrArg List.length e1
      have a2 := congrArg List.length e2
      rw [List.length_append] at a1 a2
      rw [ih] at a2
      omega
    rw [e1, e2, ih]
    congr 1
    rw [List.eq_replicate_iff.2 ⟨rfl, s1⟩, List.eq_replicate_iff.2 ⟨rfl, t1⟩, hls]
theorem prof_scaled (hp : 2 ≤ p) (hf : Fld p) (hx : Rng p xs) (hz : Rng p zs) (hxl : xs.length = m * n) (hzl : zs.length = m * n) {i : Nat} {c d : Int} (hcd : c * d % p = 1) (h : Scaled p m n i c xs zs) : profZ p m n zs = profZ p m n xs := by
  have := prof_same (m := m) (n := n) hp hf hx hz (fun k hk => rank_scaled hp hf (hx.take _) (hz.take _) hcd (i := i) (fun a b ha hb => by
    have h1 : a * n + b < k * n := at_lt ha hb
    have h2 := h a b (by omega) hb
    simp only [List.getD, List.getElem?_take, if_pos h1] at h2 ⊢
    by_cases e : a = i
    · rw [← e, if_pos h1]
      rw [← e] at h2
      exact h2
    · rw [if_neg e] at h2 ⊢
      exact h2)) m (Nat.le_refl _)
  rw [← hxl, List.take_length, hxl, ← hzl, List.take_length] at this
  unfold profZ
  rw [this]
end Go.Proofs.YthomeenmcajmdaaGreatDoor
namespace Go.Proofs.YthomeenmcajmdaaGreatDoor
open Go.RowKit Go.Maps
structure UndC (w0 w : World) (h g Q cap : Nat) (r c : Int) (l : List Int) : Prop where
  box : Blk w h 26 #[.int .i64 r, .int .i64 c, .slice (some ⟨g, 0, none⟩) Q cap]
  row : WRow w g 0 l
  len : l.length = Q
  ext : Ext w0 w
  hg : w0.heap.size ≤ g
  hh : w0.heap.size ≤ h
  ne : g ≠ h
theorem UndC.ext' {w0 w w' : World} {h g Q cap : Nat} {r c : Int} {l : List Int} (b : UndC w0 w h g Q cap r c l) (y : Ext w w') : UndC w0 w' h g Q cap r c l :=
  ⟨b.box.ext y, b.row.ext y, b.len, b.ext.trans y, b.hg, b.hh, b.ne⟩
theorem UndC.put {w0 w : World} {h g Q cap : Nat} {r c : Int} {l : List Int} (b : UndC w0 w h g Q cap r c l) {i : Nat} (hi : i < Q) (x : Int) : UndC w0 (w.setCell ⟨g, i, none⟩ (.int .u64 x)) h g Q cap r c (l.set i x) := by
  have hs := b.row.set_ (i := i) (by rw [b.len]; exact hi) x
  rw [Nat.zero_add] at hs
  exact ⟨b.box.grown (setCell_grown _ _ _) (fun e => b.ne (by injection e)), hs, by rw [List.length_set]; exact b.len, b.ext.setCell (p := ⟨g, i, none⟩) b.hg _, b.hg, b.hh, b.ne⟩
theorem UndC.at_ {w0 w : World} {h g Q cap : Nat} {r c : Int} {l : List Int} (b : UndC w0 w h g Q cap r c l) {i : Nat} (hi : i < Q) : w.cell? ⟨g, i, none⟩ = some (.int .u64 (l.getD i 0)) ∧ w.frozen? ⟨g, i, none⟩ = false := by
  have := b.row.2 i (by rw [b.len]; exact hi)
  rw [Nat.zero_add] at this
  exact this
theorem UndC.born {W w3 : World} {h g Q cap : Nat} {r c : Int} {l : List Int} {x y z : Value} (hB : Blk w3 h 26 #[x, y, z]) (row : WRow w3 g 0 l) (hl : l.length = Q) (hx : Ext W w3) (hg : W.heap.size ≤ g) (hh : W.heap.size ≤ h) (ne : g ≠ h) :
    UndC W (((w3.setCell ⟨h, 0, none⟩ (.int .i64 r)).setCell ⟨h, 1, none⟩ (.int .i64 c)).setCell ⟨h, 2, none⟩ (.slice (some ⟨g, 0, none⟩) Q cap)) h g Q cap r c l :=
  ⟨(fin0 hB hx hh _ _ _).1, ((row.set_other ne).set_other ne).set_other ne, hl, (fin0 hB hx hh _ _ _).2, hg, hh, ne⟩
theorem UndC.born' {W w3 : World} {g Q cap : Nat} {r c : Int} {l : List Int} (row : WRow w3 g 0 l) (hl : l.length = Q) (hx : Ext W w3) (hg : W.heap.size ≤ g) :
    UndC W (w3.alloc (.cells #[.int .i64 r, .int .i64 c, .slice (some ⟨g, 0, none⟩) Q cap] 26)) w3.heap.size g Q cap r c l :=
  ⟨Blk.new _ _ _, row.ext ((Ext.refl _).alloc _), hl, hx.alloc _, hg, hx.size, Nat.ne_of_lt row.1⟩
theorem Rng.set' {p : Int} {l : List Int} (h : Rng p l) (i : Nat) {x : Int} (h0 : 0 ≤ x) (h1 : x < p) : Rng p (l.set i x) := fun y hy => by
  rcases List.mem_or_eq_of_mem_set hy with h2 | h2
  · exact h y h2
  · rw [h2]; exact ⟨h0, h1⟩
end Go.Proofs.YthomeenmcajmdaaGreatDoor
