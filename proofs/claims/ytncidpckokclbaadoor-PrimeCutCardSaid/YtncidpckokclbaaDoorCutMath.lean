/- A list of proofs without one: what it shows; and its cells. -/
import Derived.Test.YtncidpckokclbaaDoorPrattList
import Derived.Maps.AppendAt
namespace Go.Proofs.YtncidpckokclbaaDoor
open Go.RowKit Go.Maps

/-- does the proof at m lean on the one at k? -/
def leansB (l : List Prf) (k m : Nat) : Bool := (l.getD m .zero).parts.any fun q => decide (q.1 = (l.getD k .zero).num)
/-- from m on: the place, once k is left out, of the first that leans on k; how many there are, where none does -/
def needAt (l : List Prf) (k : Nat) : Nat → Nat → Nat
  | 0, _ => l.length - 1
  | n + 1, m => if leansB l k m then m - 1 else needAt l k n (m + 1)
def needF (l : List Prf) (k m : Nat) : Nat := needAt l k (l.length - m) m
theorem needF_end (l : List Prf) (k : Nat) : needF l k l.length = l.length - 1 := by simp [needF, needAt]
theorem needF_step (l : List Prf) (k m : Nat) (h : m < l.length) : needF l k m = if leansB l k m then m - 1 else needF l k (m + 1) := by
  unfold needF
  rw [show l.length - m = (l.length - (m + 1)) + 1 by omega, needAt]
theorem needF_spec (l : List Prf) (k : Nat) : ∀ (n m : Nat), n = l.length - m → k < m → m ≤ l.length →
    m - 1 ≤ needF l k m ∧ needF l k m ≤ l.length - 1 ∧ (∀ j, m ≤ j → j ≤ needF l k m → leansB l k j = false) ∧ (needF l k m < l.length - 1 → leansB l k (needF l k m + 1) = true)
  | 0, m, h, hk, hm => by
    obtain rfl : m = l.length := by omega
    rw [needF_end]
    exact ⟨by omega, by omega, fun j a b => by omega, fun h => by omega⟩
  | n + 1, m, h, hk, hm => by
    have ih := needF_spec l k n (m + 1) (by omega) (by omega) (by omega)
    rw [needF_step l k m (by omega)]
    cases e : leansB l k m with
    | true => simp only [if_true]; exact ⟨by omega, by omega, fun j a b => by omega, fun _ => by rw [show m - 1 + 1 = m by omega]; exact e⟩
    | false =>
      simp only [Bool.false_eq_true, if_false]
      exact ⟨by omega, ih.2.1, fun j a b => by
        by_cases hj : j = m
        · rw [hj]; exact e
        · exact ih.2.2.1 j (by omega) b, ih.2.2.2⟩

/-- the list without the one at k -/
def without (l : List Prf) (k : Nat) : List Prf := l.take k ++ l.drop (k + 1)
theorem without_length (l : List Prf) (k : Nat) (hk : k < l.length) : (without l k).length = l.length - 1 := by simp [without]; omega
theorem without_low (l : List Prf) (k j : Nat) (hk : k < l.length) (hj : j < k) : (without l k).getD j .zero = l.getD j .zero := by
  have e : min k l.length = k := by omega
  simp [without, List.getD, List.getElem?_append, e, hj, show j < l.length by omega]
theorem without_high (l : List Prf) (k j : Nat) (hk : k < l.length) (hj : k ≤ j) : (without l k).getD j .zero = l.getD (j + 1) .zero := by
  have e : min k l.length = k := by omega
  simp only [without, List.getD, List.getElem?_append, List.length_take, e, if_neg (show ¬ j < k by omega), List.getElem?_drop]
  rw [show k + 1 + (j - k) = j + 1 by omega]
theorem without_take_low (l : List Prf) (k j : Nat) (hk : k < l.length) (hj : j ≤ k) : (without l k).take j = l.take j := by
  rw [without, List.take_append_of_le_length (by simp; omega), List.take_take]; congr 1; omega
theorem okAt_low (l : List Prf) (k j : Nat) (hk : k < l.length) (hj : j < k) : okAt (without l k) j = okAt l j := by
  have e2 : lastD (without l k) j = lastD l j := by
    cases j with
    | zero => rfl
    | succ j => simp only [lastD]; rw [without_low l k j hk (by omega)]
  rw [okAt, okAt, without_low l k j hk hj, e2, without_take_low l k j hk (by omega)]
theorem mem_without (l : List Prf) (k j : Nat) (hk : k < l.length) (hj : k ≤ j) (f : Prf) : f ∈ (without l k).take j ↔ f ∈ l.take k ∨ f ∈ (l.drop (k + 1)).take (j - k) := by
  have e : (l.take k).length = k := by simp; omega
  rw [without, List.take_append, e, List.mem_append, List.take_of_length_le (by omega)]
theorem mem_all (l : List Prf) (k j : Nat) (hk : k < l.length) (hj : k ≤ j) (f : Prf) : f ∈ l.take (j + 1) ↔ f ∈ l.take k ∨ f = l.getD k .zero ∨ f ∈ (l.drop (k + 1)).take (j - k) := by
  have e : l.take (j + 1) = l.take k ++ ([l.getD k .zero] ++ (l.drop (k + 1)).take (j - k)) := by
    have h1 : l.drop k = l.getD k .zero :: l.drop (k + 1) := by rw [List.drop_eq_getElem_cons hk]; simp [List.getD, List.getElem?_eq_getElem hk]
    have h2 : l.take (j + 1) = l.take k ++ (l.drop k).take (j + 1 - k) := by
      conv => lhs; rw [show j + 1 = k + (j + 1 - k) by omega, List.take_add]
    rw [h2, h1, show j + 1 - k = (j - k) + 1 by omega]
    rfl
  rw [e]
  simp [List.mem_append]

theorem lastD_lt {l : List Prf} (hok : ∀ k, k < l.length → okAt l k = true) {k : Nat} (hk : k < l.length) : lastD l k < (l.getD k .zero).num := by
  have := hok k hk
  simp only [okAt, Bool.and_eq_true, decide_eq_true_eq] at this
  exact this.1.2
theorem num_lt {l : List Prf} (hok : ∀ k, k < l.length → okAt l k = true) : ∀ (j i : Nat), i < j → j < l.length → (l.getD i .zero).num < (l.getD j .zero).num
  | 0, i, h, _ => by omega
  | j + 1, i, h, hj => by
    have h1 : (l.getD j .zero).num < (l.getD (j + 1) .zero).num := lastD_lt hok hj
    by_cases e : i = j
    · rw [e]; exact h1
    · have := num_lt hok j i (by omega) (by omega)
      omega
theorem num_two {l : List Prf} (hok : ∀ k, k < l.length → okAt l k = true) {k : Nat} (hk : k < l.length) : 2 < (l.getD k .zero).num := by
  have h0 : 2 < (l.getD 0 .zero).num := lastD_lt hok (k := 0) (by omega)
  by_cases e : k = 0
  · rw [e]; exact h0
  · have := num_lt hok k 0 (by omega) hk
    omega

/-- behind k: one that doesn't lean on k is a proof as before; one that does is none -/
theorem okAt_high (l : List Prf) (k j : Nat) (hok : ∀ k, k < l.length → okAt l k = true) (hk : k < l.length) (hj : k ≤ j) (hj2 : j + 1 < l.length) :
    okAt (without l k) j = !leansB l k (j + 1) := by
  have h2 := num_two hok hk
  have hjk := num_lt hok (j + 1) k (by omega) hj2
  have hold := hok (j + 1) hj2
  have hlast : lastD (without l k) j < (l.getD (j + 1) .zero).num := by
    cases j with
    | zero => simp only [lastD]; exact num_two hok hj2
    | succ j =>
      simp only [lastD]
      by_cases e : j < k
      · rw [without_low l k j hk e]; exact num_lt hok _ _ (by omega) hj2
      · rw [without_high l k j hk (by omega)]; exact num_lt hok _ _ (by omega) hj2
  simp only [okAt, Bool.and_eq_true, decide_eq_true_eq, provesB, List.all_eq_true] at hold
  obtain ⟨⟨h200, -⟩, ⟨⟨⟨⟨⟨p1, p2⟩, p3⟩, p4⟩, p5⟩, p6⟩⟩ := hold
  have kn : ∀ q, q ≠ (l.getD k .zero).num → knownB (l.take (j + 1)) q = true → knownB ((without l k).take j) q = true := by
    intro q hq hkn
    simp only [knownB, decide_eq_true_eq, List.mem_map] at hkn ⊢
    rcases hkn with h | ⟨f, hf, rfl⟩
    · exact .inl h
    · right
      refine ⟨f, ?_, rfl⟩
      rw [mem_without l k j hk hj]
      rcases (mem_all l k j hk hj f).1 hf with h | h | h
      · exact .inl h
      · exact absurd (by rw [h]) hq
      · exact .inr h
  have kn2 : knownB ((without l k).take j) (l.getD k .zero).num = false := by
    simp only [knownB, decide_eq_false_iff_not, List.mem_map]
    rintro (h | ⟨f, hf, he⟩)
    · omega
    · rcases (mem_without l k j hk hj f).1 hf with h | h
      · obtain ⟨i, hi, rfl⟩ := List.mem_iff_getElem.1 h
        have hi2 : i < k := by simp at hi; omega
        have := num_lt hok k i hi2 hk
        simp [List.getD, List.getElem?_eq_getElem (show i < l.length by omega), List.getElem?_eq_getElem hk] at this he
        omega
      · have h' := List.mem_of_mem_take h
        obtain ⟨i, hi, rfl⟩ := List.mem_iff_getElem.1 h'
        have hi2 : k + 1 + i < l.length := by simp at hi; omega
        have := num_lt hok (k + 1 + i) k (by omega) hi2
        simp [List.getD, List.getElem?_eq_getElem hi2, List.getElem?_eq_getElem hk] at this he
        omega
  rw [okAt, without_high l k j hk hj, provesB]
  simp only [decide_eq_true p1, p2, p3, p4, p6, decide_eq_true hlast, decide_true, Bool.and_true, Bool.true_and]
  rw [show decide (j ≠ 200) = true by simp; rintro rfl; have := hok 200 (by omega); simp [okAt] at this, Bool.true_and]
  cases e : leansB l k (j + 1) with
  | true =>
    simp only [leansB, List.any_eq_true, decide_eq_true_eq] at e
    obtain ⟨q, hq, he⟩ := e
    simp only [Bool.not_true, List.all_eq_false]
    exact ⟨q, hq, by rw [he, kn2]; simp⟩
  | false =>
    simp only [leansB, List.any_eq_false, decide_eq_true_eq] at e
    simp only [Bool.not_false, List.all_eq_true]
    exact fun q hq => kn _ (e q hq) (p5 q hq)

theorem firstD_without {l : List Prf} (h : firstD l = l.length) {k : Nat} (hk : k < l.length) : firstD (without l k) = needF l k (k + 1) := by
  have hok := firstD_all h
  obtain ⟨s1, s2, s3, s4⟩ := needF_spec l k _ (k + 1) rfl (by omega) (by omega)
  have hl := without_length l k hk
  refine firstD_eq (by omega) (fun j hj => ?_) (fun hlt => ?_)
  · by_cases e : j < k
    · rw [okAt_low l k j hk e]; exact hok j (by omega)
    · rw [okAt_high l k j hok hk (by omega) (by omega), s3 (j + 1) (by omega) (by omega)]; rfl
  · rw [okAt_high l k _ hok hk (by omega) (by omega), s4 (by omega)]; rfl
theorem showsB_without {l : List Prf} (h : firstD l = l.length) {k : Nat} (hk : k < l.length) : (decide (firstD (without l k) = (without l k).length) && knownB (without l k) (l.getD k .zero).num) = false := by
  have hok := firstD_all h
  have h2 := num_two hok hk
  have hn : knownB (without l k) (l.getD k .zero).num = false := by
    simp only [knownB, decide_eq_false_iff_not, List.mem_map]
    rintro (h | ⟨f, hf, he⟩)
    · omega
    · rcases List.mem_append.1 hf with h' | h'
      · obtain ⟨i, hi, rfl⟩ := List.mem_iff_getElem.1 h'
        have hi2 : i < k := by simp at hi; omega
        have := num_lt hok k i hi2 hk
        simp [List.getD, List.getElem?_eq_getElem (show i < l.length by omega), List.getElem?_eq_getElem hk] at this he
        omega
      · obtain ⟨i, hi, rfl⟩ := List.mem_iff_getElem.1 h'
        have hi2 : k + 1 + i < l.length := by simp at hi; omega
        have := num_lt hok (k + 1 + i) k (by omega) hi2
        simp [List.getD, List.getElem?_eq_getElem hi2, List.getElem?_eq_getElem hk] at this he
        omega
  rw [hn, Bool.and_false]

/-- proofs, each with the value of its parts, as cells -/
def flatV (gs : List (Prf × Value)) : List Value := gs.flatMap fun g => [.int .u64 g.1.num, .int .u64 g.1.root, g.2]
theorem flatV_length : ∀ gs : List (Prf × Value), (flatV gs).length = gs.length * 3
  | [] => rfl
  | g :: gs => by have := flatV_length gs; unfold flatV at this ⊢; simp only [List.flatMap_cons, List.length_append, List.length_cons, List.length_nil] at this ⊢; omega
theorem flatV_append (a b : List (Prf × Value)) : flatV (a ++ b) = flatV a ++ flatV b := by simp [flatV]
theorem flatV_get : ∀ (gs : List (Prf × Value)) (j : Nat) (h : j < gs.length), (flatV gs)[j * 3]? = some (.int .u64 gs[j].1.num) ∧ (flatV gs)[j * 3 + 1]? = some (.int .u64 gs[j].1.root) ∧ (flatV gs)[j * 3 + 2]? = some gs[j].2
  | [], j, h => by simp at h
  | g :: gs, 0, _ => by simp [flatV]
  | g :: gs, j + 1, h => by
    have := flatV_get gs j (by simpa using h)
    have e : flatV (g :: gs) = .int .u64 g.1.num :: .int .u64 g.1.root :: g.2 :: flatV gs := by simp [flatV]
    rw [e, show (j + 1) * 3 = j * 3 + 1 + 1 + 1 by omega]
    simpa using this
/-- the cells of a row of proofs -/
theorem flatV_cells {w : World} {b off : Nat} {gs : List (Prf × Value)}
    (h : ∀ j (hj : j < gs.length), w.cell? ⟨b, off + j * 3, none⟩ = some (.int .u64 gs[j].1.num) ∧ w.cell? ⟨b, off + j * 3 + 1, none⟩ = some (.int .u64 gs[j].1.root) ∧ w.cell? ⟨b, off + j * 3 + 2, none⟩ = some gs[j].2) :
    ∀ j u, (flatV gs)[j]? = some u → w.cell? ((⟨b, off, none⟩ : Addr).add j) = some u := by
  intro j u hu
  have hlt := (List.getElem?_eq_some_iff.1 hu).1
  rw [flatV_length] at hlt
  obtain ⟨q, r, rfl, hr⟩ : ∃ q r, j = q * 3 + r ∧ r < 3 := ⟨j / 3, j % 3, by omega, by omega⟩
  have hq : q < gs.length := by omega
  have h1 := flatV_get gs q hq
  have h2 := h q hq
  have e : ((⟨b, off, none⟩ : Addr).add (q * 3 + r)) = ⟨b, off + (q * 3 + r), none⟩ := Go.WideShapes.add_plain _ _ _
  rw [e, ← hu]
  match r, hr with
  | 0, _ => exact h2.1.trans h1.1.symm
  | 1, _ => exact h2.2.1.trans h1.2.1.symm
  | 2, _ => exact h2.2.2.trans h1.2.2.symm
theorem flatV_one {w : World} {gs : List (Prf × Value)} (h : ∀ g ∈ gs, Parts w g.2 g.1.parts) : ∀ u ∈ flatV gs, u.oneCell' = true := by
  intro u hu
  obtain ⟨g, hg, hu⟩ := List.mem_flatMap.1 hu
  simp only [List.mem_cons, List.not_mem_nil, or_false] at hu
  rcases hu with rfl | rfl | rfl
  · rfl
  · rfl
  · obtain ⟨a, c, e, _⟩ := h g hg; rw [e]; rfl
/-- a slice of proofs has its parts' values -/
theorem Proofs.withV {w : World} {b off n cap : Nat} {l : List Prf} (h : Proofs w (.slice (some ⟨b, off, none⟩) n cap) l) (hl : 0 < l.length) :
    ∃ gs : List (Prf × Value), gs.map (·.1) = l ∧ (∀ g ∈ gs, Parts w g.2 g.1.parts) ∧ ∀ j (hj : j < gs.length), w.cell? ⟨b, off + j * 3, none⟩ = some (.int .u64 gs[j].1.num) ∧ w.cell? ⟨b, off + j * 3 + 1, none⟩ = some (.int .u64 gs[j].1.root) ∧ w.cell? ⟨b, off + j * 3 + 2, none⟩ = some gs[j].2 := by
  classical
  obtain ⟨a, c, e, h1, h2, h3⟩ := h
  obtain ⟨b', off', e', hb, hc⟩ := h3 hl
  injection e with e1
  rw [e'] at e1
  injection e1 with e1
  injection e1 with e2 e3
  subst e2; subst e3
  have hV : ∀ j : Nat, ∃ v, j < l.length → w.cell? ⟨b, off + j * 3 + 2, none⟩ = some v ∧ Parts w v (l.getD j .zero).parts := fun j => by
    by_cases hj : j < l.length
    · obtain ⟨_, _, v, c3, c4⟩ := hc j hj
      exact ⟨v, fun _ => ⟨c3, c4⟩⟩
    · exact ⟨.slice none 0 0, fun h => absurd h hj⟩
  let V : Nat → Value := fun j => Classical.choose (hV j)
  have hV2 : ∀ j, j < l.length → w.cell? ⟨b, off + j * 3 + 2, none⟩ = some (V j) ∧ Parts w (V j) (l.getD j .zero).parts := fun j hj => Classical.choose_spec (hV j) hj
  refine ⟨(List.range l.length).map fun j => (l.getD j .zero, V j), ?_, ?_, ?_⟩
  · apply List.ext_getElem
    · simp
    · intro i h1 h2; simp [List.getD, List.getElem?_eq_getElem (show i < l.length by simpa using h2)]
  · intro g hg
    obtain ⟨j, hj, rfl⟩ := List.mem_map.1 hg
    exact (hV2 j (by simpa using hj)).2
  · intro j hj
    have hj2 : j < l.length := by simpa using hj
    simp only [List.getElem_map, List.getElem_range]
    exact ⟨(hc j hj2).1, (hc j hj2).2.1, (hV2 j hj2).1⟩
theorem Proofs.ofV {w : World} {base : Nat} {e : TypeId} {v : Value} {n : Nat} {gs : List (Prf × Value)} (h : w.ownsRow base e 3 v n (flatV gs)) (hn : n = gs.length) (hp : ∀ g ∈ gs, Parts w g.2 g.1.parts) : Proofs w v (gs.map (·.1)) := by
  subst hn
  rcases h.2 with ⟨rfl, h0⟩ | ⟨g, cap, cur, rfl, hb, hg, h1, h2, h3, h4⟩
  · obtain rfl : gs = [] := List.eq_nil_of_length_eq_zero h0
    exact Proofs.nil
  · refine ⟨_, cap, by simp, by simpa using h1, by unfold maxLen at h2; omega, fun hp' => ⟨g, 0, rfl, (Array.getElem?_eq_some_iff.1 hg).1, fun j hj => ?_⟩⟩
    simp only [List.length_map] at hj
    have hf := flatV_get gs j hj
    have c1 := h.cellAt (j * 3) (by omega)
    have c2 := h.cellAt (j * 3 + 1) (by omega)
    have c3 := h.cellAt (j * 3 + 2) (by omega)
    have eg : (gs.map (·.1)).getD j .zero = gs[j].1 := by simp [List.getD, List.getElem?_eq_getElem hj]
    rw [Nat.zero_add, eg]
    exact ⟨c1.trans hf.1, c2.trans hf.2.1, _, c3.trans hf.2.2, hp _ (List.getElem_mem hj)⟩

theorem news_ext {w w' : World} {b off : Nat} {xs : List Value} (he : Ext w w') (hb : b < w.heap.size) (h : ∀ j u, xs[j]? = some u → w.cell? ((⟨b, off, none⟩ : Addr).add j) = some u) :
    ∀ j u, xs[j]? = some u → w'.cell? ((⟨b, off, none⟩ : Addr).add j) = some u := by
  intro j u hu
  have h1 := h j u hu
  have e : ((⟨b, off, none⟩ : Addr).add j) = ⟨b, off + j, none⟩ := Go.WideShapes.add_plain _ _ _
  rw [e] at h1 ⊢
  exact (he.cells _ _ hb).trans h1
theorem flatV_take {w : World} {b off q : Nat} {gs : List (Prf × Value)}
    (h : ∀ j (hj : j < gs.length), w.cell? ⟨b, off + j * 3, none⟩ = some (.int .u64 gs[j].1.num) ∧ w.cell? ⟨b, off + j * 3 + 1, none⟩ = some (.int .u64 gs[j].1.root) ∧ w.cell? ⟨b, off + j * 3 + 2, none⟩ = some gs[j].2) :
    ∀ j u, (flatV (gs.take q))[j]? = some u → w.cell? ((⟨b, off, none⟩ : Addr).add j) = some u :=
  flatV_cells fun j hj => by
    have hj2 : j < gs.length := by simp at hj; omega
    simpa using h j hj2
theorem flatV_drop {w : World} {b off q : Nat} {gs : List (Prf × Value)}
    (h : ∀ j (hj : j < gs.length), w.cell? ⟨b, off + j * 3, none⟩ = some (.int .u64 gs[j].1.num) ∧ w.cell? ⟨b, off + j * 3 + 1, none⟩ = some (.int .u64 gs[j].1.root) ∧ w.cell? ⟨b, off + j * 3 + 2, none⟩ = some gs[j].2) :
    ∀ j u, (flatV (gs.drop q))[j]? = some u → w.cell? ((⟨b, off + q * 3, none⟩ : Addr).add j) = some u :=
  flatV_cells fun j hj => by
    have hj2 : q + j < gs.length := by simp at hj; omega
    have := h (q + j) hj2
    simp only [List.getElem_drop]
    rw [show off + q * 3 + j * 3 = off + (q + j) * 3 by omega]
    exact this

section
variable {P : Program} (w : World)
/-- an append of what lies somewhere onto a row of the call's own, at a step of a region that draws -/
theorem step_append_at {ops : Array Oper} {o : Oper} {a : Act} {K : Act → World → Prop} {E : Prop} {Q : Exit → Act → World → Prop} (hgd : o.guard = none) (s x : Operand) (t : TypeId)
    (ho : o.op = .call { callee := .builtin .append, args := #[s, x], argTypes := #[t, t] })
    (base : Nat) (e : TypeId) (i : TypeInfo) (z : Value) (size bytes : Nat) (ht : P.underlying t = some (.slice e)) (hi : P.info? e = some i) (hz : i.zero = some z)
    (hsize : i.size = size) (hby : i.bytes = bytes) (hzs : z.cells.size = size) (hsz : 0 < size)
    (v : Value) (n : Nat) (xs : List Value) (hs : a.eval s = v) (hown : w.ownsRow base e size v n xs)
    (ad : Addr) (m c : Nat) (news : List Value) (hx : a.eval x = .slice (some ad) m c) (hl : news.length = m * size) (hnews : ∀ j u, news[j]? = some u → w.cell? (ad.add j) = some u) (h1 : ∀ u ∈ news, u.oneCell' = true)
    (h63 : n + m ≤ maxLen) (hbytes : (n + m) * bytes ≤ 140737488355328) (hbase : base ≤ w.heap.size)
    (h : ∀ v' w', w'.ownsRow base e size v' (n + m) (xs ++ news) → w.grownBy w' v.ownBlock → (v'.ownBlock = v.ownBlock ∨ v'.ownBlock = some w.heap.size) → K (a.put o.dst v') w') :
    if Region.wanted o (yielded ops a.tmps) = true then Oper.wp P o a w K Q else E := by
  have hw : Region.wanted o (yielded ops a.tmps) = true := by simp [Region.wanted, hgd]
  rw [if_pos hw]
  obtain ⟨v', w', hrun, r1, r2, _, r3⟩ := run_append_own_at (P := P) w base t o.type e i z size bytes ht hi hz hsize hby hzs hsz v n xs hown ad m c news hl hnews h1 h63 hbytes hbase
  unfold Oper.wp execOp
  simp only [ho, resolve, invoke, builtin, Sem.run_bind, Sem.run_pure, Result.andThen_ok, List.map_toArray, List.map_cons, List.map_nil, hs, hx, hrun]
  exact h v' w' r1 r2 r3
end
end Go.Proofs.YtncidpckokclbaaDoor
