import Derived.Test.YthomeenmcajmdaaGreatDoorBun20
import Derived.Test.YthomeenmcajmdaaGreatDoorBun06
import Derived.Test.YthomeenmcajmdaaGreatDoorBun03
import Derived.StillTailTactics
import Derived.Test.YthomeenmcajmdaaGreatDoorBun18
namespace Go.Proofs.YthomeenmcajmdaaGreatDoor
open Go.RowKit Go.Maps
theorem ints_news {k : IntKind} {w : World} {ad : Addr} {m c : Nat} {l : List Int} (h : Ints k w (.slice (some ad) m c) l) : ∀ j u, (l.map (Value.int k))[j]? = some u → w.cell? (ad.add j) = some u := by
  intro j u hj
  obtain ⟨a, cap, e, _, _, h3⟩ := h
  injection e with e1 _ _
  subst e1
  have hjl : j < l.length := by
    rcases Nat.lt_or_ge j l.length with h | h
    · exact h
    · rw [List.getElem?_eq_none (by simpa using h)] at hj; cases hj
  obtain ⟨b, off, e, hb, hcell⟩ := h3 (by omega)
  injection e with e
  subst e
  rw [show ((⟨b, off, none⟩ : Addr).add j) = ⟨b, off + j, none⟩ from Go.WideShapes.add_plain _ _ _, hcell j hjl]
  rw [List.getElem?_map, List.getElem?_eq_getElem hjl] at hj
  simp only [Option.map_some, Option.some.injEq] at hj
  rw [← hj]
  simp [List.getD, List.getElem?_eq_getElem hjl]
theorem ints_one {k : IntKind} {l : List Int} : ∀ u ∈ l.map (Value.int k), u.oneCell' = true := by
  intro u hu
  obtain ⟨q, _, rfl⟩ := List.mem_map.1 hu
  rfl
theorem Bld.more {w0 w w' : World} {h base : Nat} {r c : Int} {rv v' : Value} {t t' : Nat} {G : Nat → Int} (b : Bld w0 w h base r c rv t G) (hown : w'.ownsRow base 22 1 v' t' ((tab t' G).map (Value.int .u64))) (hg : w.grownBy w' rv.ownBlock) :
    Bld w0 (w'.setCell ⟨h, 2, none⟩ v') h base r c v' t' G := by
  have hne : rv.ownBlock ≠ some h := by
    rcases ownsRow_blk b.own b.box (by decide) with e | e
    · rw [e]; simp
    · exact e
  have hb := b.box.grown hg hne
  have hne2 : v'.ownBlock ≠ some h := by
    rcases ownsRow_blk hown hb (by decide) with e | e
    · rw [e]; simp
    · exact e
  exact ⟨hb.set_ 2 v', hown.kept (setCell_grown _ _ _) (.inr hne2), (b.ext.grown hg fun k e => Nat.le_trans b.hb (b.own.lt k e).1).setCell b.hh _, b.hb, b.hh⟩
end Go.Proofs.YthomeenmcajmdaaGreatDoor
namespace Go.Proofs.YthomeenmcajmdaaGreatDoor
variable {p : Int} {m n k q : Nat} {xs ys o : List Int}
theorem rowOf_congr {xs ys : List Int} {i i' : Nat} (h : ∀ j, j < n → ys.getD (i * n + j) 0 = xs.getD (i' * n + j) 0) : rowOf n ys i = rowOf n xs i' := tab_congr h
theorem Bas.congr {r : Nat} {M M' u : Nat → RowF} (B : Bas p n m r M u) (h : ∀ i j, i < m → j < n → M' i j % p = M i j % p) : Bas p n m r M' u :=
  ⟨B.ind, fun i hi => (B.gen i hi).congr fun j hj => h i j hi hj, fun k hk => (B.own k hk).trans fun i hi => (Comb.one M' hi).congr fun j hj => (h i j hi hj).symm⟩
theorem lf_mul {i j : Nat} (hi : i < m) (hj : j < q) : lf (rowOf q (mulL p m k q xs ys) i) j % p = mulF k (fun i => lf (rowOf k xs i)) (fun l => lf (rowOf q ys l)) i j % p := by
  rw [lf_row hj]
  show (mulL p m k q xs ys).getD (i * q + j) 0 % p = _
  rw [mulL, grid_get _ hi hj]
  unfold dv mulF
  rw [Int.emod_emod]
  exact congrArg (· % p) (sm_congr fun l hl => by
    show atF k xs i l * atF q ys l j = lf (rowOf k xs i) l * lf (rowOf q ys l) j
    rw [lf_row hl, lf_row hj])
theorem detF_mod : ∀ (n : Nat) {A B : Nat → Nat → Int}, (∀ i j, i < n → j < n → A i j % p = B i j % p) → detF n A % p = detF n B % p
  | 0, _, _, _ => rfl
  | n + 1, A, B, h => by
    rw [detF_succ, detF_succ]
    refine sm_mod fun k hk => ?_
    have h1 := h 0 k (by omega) hk
    have h2 := detF_mod n (A := fun i j => A (i + 1) (skp k j)) (B := fun i j => B (i + 1) (skp k j)) fun i j hi hj => h _ _ (by omega) (skp_lt hj)
    rw [← mm_r, h2, mm_r, Int.mul_assoc, Int.mul_assoc, ← mm_r (sg k), ← mm_l (A 0 k), h1, mm_l, mm_r]
theorem det_product (hp : 2 ≤ p) (hf : Fld p) (hx : Rng p xs) : detF n (atF n (mulL p n n n xs ys)) % p = (detF n (atF n xs) % p) * (detF n (atF n ys) % p) % p := by
  have hi := hf.has hp
  have h := takeL_ok (m := n) (n := n) hp hf hx
  have h1 := det_mul hi h (B := rowOf n ys)
  have h2 := h.det hi
  rw [rowsF_det] at h1 h2
  have e : (rowsF n (rowOf n xs)).map (mulR n fun l => lf (rowOf n ys l)) = (List.range n).map fun i => mulR n (fun l => lf (rowOf n ys l)) (lf (rowOf n xs i)) := by
    unfold rowsF
    rw [List.map_map]; rfl
  rw [e] at h1
  have e2 : detF n (atF n (mulL p n n n xs ys)) % p = detN n ((List.range n).map fun i => mulR n (fun l => lf (rowOf n ys l)) (lf (rowOf n xs i))) % p := detF_mod n fun i j h3 h4 => by
    have := lf_mul (p := p) (k := n) (xs := xs) (ys := ys) h3 h4
    rw [lf_row h4] at this
    exact this
  rw [mm_r, e2, h1, h2, mm_l]
theorem rowOf_set {i : Nat} {x : Int → Int} (zs : List Int) (h1 : ∀ a b, a < n → b < n → zs.getD (a * n + b) 0 = if a = i then x (xs.getD (i * n + b) 0) else xs.getD (a * n + b) 0) : (∀ a, a < n → a ≠ i → rowOf n zs a = rowOf n xs a) ∧ (i < n → ∀ b, b < n → (rowOf n zs i).getD b 0 = x ((rowOf n xs i).getD b 0)) :=
  ⟨fun a ha hne => rowOf_congr fun b hb => by rw [h1 a b ha hb, if_neg hne], fun hi b hb => by
    have e1 : (rowOf n zs i).getD b 0 = zs.getD (i * n + b) 0 := tab_get _ hb
    have e2 : (rowOf n xs i).getD b 0 = xs.getD (i * n + b) 0 := tab_get _ hb
    rw [e1, e2, h1 i b hi hb, if_pos rfl]⟩
theorem det_scaled {i : Nat} {c : Int} {zs : List Int} (hi : i < n) (h : ∀ a b, a < n → b < n → zs.getD (a * n + b) 0 = if a = i then xs.getD (i * n + b) 0 * c % p else xs.getD (a * n + b) 0) : detF n (atF n zs) % p = detF n (atF n xs) % p * c % p := by
  obtain ⟨h1, h2⟩ := rowOf_set (x := fun y => y * c % p) zs h
  rw [← rowsF_det, ← rowsF_det, det_scale hi h1 (x := c) fun b hb => by rw [h2 hi b hb, Int.emod_emod], mm_l]
end Go.Proofs.YthomeenmcajmdaaGreatDoor
namespace Go.Proofs.YthomeenmcajmdaaGreatDoor
variable {p : Int} {m n r : Nat}
theorem Ind.inj (hp : HasInv p) {A : Nat → RowF} (hA : Ind p r r A) {y : Nat → Int} (hy : ∀ i, i < r → (sm r fun k => A i k * y k) % p = 0) : ∀ k, k < r → y k % p = 0 := by
  intro c hc
  refine Classical.byContradiction fun hne => ?_
  obtain ⟨b, hb⟩ := hp.2 (y c) hne
  cases r with
  | zero => omega
  | succ r =>
    let e : Nat → RowF := fun k j => (if j = k then 1 else 0) - (if j = c then y k * b else 0)
    have hle := hA.le hp (s := r) (w := fun l => e (skp c l)) fun i hi => ⟨fun l => A i (skp c l), fun j hj => by
      have h1 := sm_skp (fun k => A i k * e k j) r c hc
      rw [h1]
      by_cases hjc : j = c
      · subst hjc
        have h2 : (sm (r + 1) fun k => if k = j then 0 else A i k * e k j) = (-b) * (sm (r + 1) fun k => A i k * y k) + A i j * (y j * b) := by
          have h3 : (sm (r + 1) fun k => if k = j then A i j * (y j * b) else 0) = A i j * (y j * b) := sm_single (fun _ => A i j * (y j * b)) hc
          rw [← h3, ← sm_mul, ← sm_add]
          refine sm_congr fun k _ => ?_
          by_cases hk : k = j
          · subst hk
            rw [if_pos rfl, if_pos rfl]
            grind
          · rw [if_neg hk, if_neg hk]
            simp only [e, if_neg (fun h : j = k => hk h.symm), if_pos]
            grind
        rw [h2, Int.add_emod, mz_mul (hy i hi), Int.zero_add, Int.emod_emod, ← mm_r, hb, Int.mul_one]
      · have h2 : (sm (r + 1) fun k => if k = c then 0 else A i k * e k j) = sm (r + 1) fun k => if k = j then A i k else 0 := sm_congr fun k _ => by
          by_cases hk : k = c
          · subst hk
            rw [if_pos rfl, if_neg (fun h => hjc h.symm)]
          · rw [if_neg hk]
            simp only [e, if_neg hjc]
            by_cases hkj : k = j
            · subst hkj; simp
            · rw [if_neg (fun h : j = k => hkj h.symm), if_neg hkj]; simp
        rw [h2, sm_single (fun k => A i k) hj]⟩
    omega
theorem Ind.surj (hp : HasInv p) {A : Nat → RowF} (hA : Ind p r r A) (b : Nat → Int) : ∃ x : Nat → Int, ∀ i, i < r → (sm r fun k => A i k * x k) % p = b i % p := by
  obtain ⟨y, ⟨c, hc, hne⟩, hy⟩ := nontriv hp r (r + 1) (by omega) fun k l => if k = r then b l else A l k
  have hs : ∀ l, l < r → ((sm r fun k => A l k * y k) + y r * b l) % p = 0 := fun l hl => by
    have h := hy l hl
    have e : (sm (r + 1) fun k => y k * if k = r then b l else A l k) = (sm r fun k => A l k * y k) + y r * b l := by
      show (sm r fun k => y k * if k = r then b l else A l k) + (y r * if r = r then b l else A l r) = _
      rw [if_pos rfl, sm_congr (g := fun k => A l k * y k) fun k hk => by rw [if_neg (by omega), Int.mul_comm]]
    rwa [e] at h
  by_cases h0 : y r % p = 0
  · have hz := hA.inj hp (y := y) fun i hi => by
      have h := hs i hi
      rw [Int.add_emod, mz_mul' h0, Int.add_zero, Int.emod_emod] at h
      exact h
    rcases Nat.lt_or_ge c r with h | h
    · exact absurd (hz c h) hne
    · have : c = r := by omega
      subst this
      exact absurd h0 hne
  · obtain ⟨d, hd⟩ := hp.2 _ h0
    refine ⟨fun k => -d * y k, fun i hi => ?_⟩
    have h := hs i hi
    rw [sm_congr (g := fun k => -d * (A i k * y k)) fun k _ => by grind, sm_mul, mz_sub]
    have e : -d * (sm r fun k => A i k * y k) - b i = -d * ((sm r fun k => A i k * y k) + y r * b i) + (y r * d - 1) * b i := by grind
    rw [e]
    exact mz_add (mz_mul h _) (mz_mul' (by rw [Int.sub_emod, hd, ← hp.one]; simp) _)
section
variable {R : Nat → List Int} {st : ElE}
theorem ElOk.free (hp : HasInv p) (h : ElOk p n R m st) : Ind p n st.U.length fun k => lf (R (st.rows.getD k 0)) :=
  h.minor hp (fun l => l) (q := n) fun k hk => ⟨st.cols.getD k 0, (h.row k hk).2.2.1, rfl⟩
theorem ElOk.rest_own (h : ElOk p n R m st) : ∀ t, t < st.U.length → Comb p n st.U.length (fun k => lf (R (st.rows.getD k 0))) (lf (st.U.getD t [])) := by
  intro t
  induction t using Nat.strongRecOn with
  | ind t ih =>
    intro ht
    have hone := h.one t (by rw [h.lr]; exact ht)
    have hlow := h.low t (by rw [h.lr]; exact ht)
    have h1 := Comb.one (p := p) (n := n) (fun k => lf (R (st.rows.getD k 0))) ht
    have h2 := Comb.sum (p := p) (n := n) (u := fun k => lf (R (st.rows.getD k 0))) (m := t) (w := fun s => lf (st.U.getD s [])) (fun s hs => ih s hs (by omega)) fun s => (st.C.getD (st.rows.getD t 0) []).getD s 0
    refine (Comb.add h1 h2 1 (-1)).congr fun j hj => ?_
    have hm := h.made _ hlow j hj
    rw [hone.1] at hm
    have e : (sm (t + 1) fun s => (st.C.getD (st.rows.getD t 0) []).getD s 0 * (st.U.getD s []).getD j 0) = (sm t fun s => (st.C.getD (st.rows.getD t 0) []).getD s 0 * lf (st.U.getD s []) j) + (st.U.getD t []).getD j 0 := by
      show _ + (st.C.getD (st.rows.getD t 0) []).getD t 0 * (st.U.getD t []).getD j 0 = _
      rw [hone.2, Int.one_mul]; rfl
    rw [e] at hm
    have hm' : lf (R (st.rows.getD t 0)) j % p = ((sm t fun s => (st.C.getD (st.rows.getD t 0) []).getD s 0 * lf (st.U.getD s []) j) + lf (st.U.getD t []) j) % p := hm
    rw [mz_sub] at hm' ⊢
    have e2 : lf (st.U.getD t []) j - (1 * lf (R (st.rows.getD t 0)) j + -1 * sm t fun s => (st.C.getD (st.rows.getD t 0) []).getD s 0 * lf (st.U.getD s []) j) = -(lf (R (st.rows.getD t 0)) j - ((sm t fun s => (st.C.getD (st.rows.getD t 0) []).getD s 0 * lf (st.U.getD s []) j) + lf (st.U.getD t []) j)) := by grind
    rw [e2]
    exact mz_neg hm'
theorem ElOk.row_own (hp : HasInv p) (h : ElOk p n R m st) {i : Nat} (hi : i < m) : Comb p n st.U.length (fun k => lf (R (st.rows.getD k 0))) (lf (R i)) :=
  ((h.bas hp).gen i hi).trans fun t ht => h.rest_own t ht
def putV (cols : List Nat) (x' : Nat → Int) : Nat → Int := fun j => sm cols.length fun l => if j = cols.getD l 0 then x' l else 0
theorem putV_off {cols : List Nat} {x' : Nat → Int} {j : Nat} (hj : j ∉ cols) : putV cols x' j = 0 := sm_zero fun l hl => by
  rw [if_neg (fun e => hj (by rw [e, List.getD, List.getElem?_eq_getElem hl]; exact List.getElem_mem hl))]
theorem putV_sum {cols : List Nat} {x' : Nat → Int} (hb : ∀ c ∈ cols, c < n) (a : Nat → Int) : (sm n fun j => a j * putV cols x' j) = sm cols.length fun l => a (cols.getD l 0) * x' l := by
  unfold putV
  rw [sm_congr (g := fun j => sm cols.length fun l => a j * if j = cols.getD l 0 then x' l else 0) fun j _ => (sm_mul _ _ _).symm, sm_comm]
  refine sm_congr fun l hl => ?_
  have hc : cols.getD l 0 < n := hb _ (by rw [List.getD, List.getElem?_eq_getElem hl]; exact List.getElem_mem hl)
  rw [sm_congr (g := fun j => if j = cols.getD l 0 then a j * x' l else 0) fun j _ => by
    by_cases e : j = cols.getD l 0
    · rw [if_pos e, if_pos e]
    · rw [if_neg e, if_neg e, Int.mul_zero]]
  exact sm_single (fun j => a j * x' l) hc
def appF (n : Nat) (R : Nat → List Int) (x : Nat → Int) (i : Nat) : Int := sm n fun j => (R i).getD j 0 * x j
theorem ElOk.all_rows (hp : HasInv p) (h : ElOk p n R m st) {x x0 : Nat → Int} (hk : ∀ k, k < st.U.length → appF n R x (st.rows.getD k 0) % p = appF n R x0 (st.rows.getD k 0) % p) {i : Nat} (hi : i < m) : appF n R x i % p = appF n R x0 i % p := by
  obtain ⟨c, hc⟩ := h.row_own hp hi
  have key : ∀ z : Nat → Int, appF n R z i % p = (sm st.U.length fun k => c k * appF n R z (st.rows.getD k 0)) % p := fun z => by
    have e1 : appF n R z i % p = (sm n fun j => (sm st.U.length fun k => c k * lf (R (st.rows.getD k 0)) j) * z j) % p := sm_mod fun j hj => by
      rw [← mm_l, show (R i).getD j 0 % p = (sm st.U.length fun k => c k * lf (R (st.rows.getD k 0)) j) % p from hc j hj, mm_l]
    rw [e1]
    refine congrArg (· % p) ?_
    rw [sm_congr (g := fun j => sm st.U.length fun k => c k * ((R (st.rows.getD k 0)).getD j 0 * z j)) fun j _ => by
      rw [← sm_mul_r]
      exact sm_congr fun k _ => by rw [Int.mul_assoc]; rfl, sm_comm]
    exact sm_congr fun k _ => sm_mul _ _ _
  rw [key x, key x0]
  exact sm_mod fun k hk' => by rw [← mm_r, hk k hk', mm_r]
theorem ElOk.core (hp : HasInv p) (h : ElOk p n R m st) : Ind p st.U.length st.U.length fun i l => (R (st.rows.getD i 0)).getD (st.cols.getD l 0) 0 :=
  h.minor hp (fun l => st.cols.getD l 0) fun k hk => ⟨k, hk, rfl⟩
theorem ElOk.own_sol (hp : HasInv p) (h : ElOk p n R m st) (b : Nat → Int) : ∃ x : Nat → Int, (∀ j, j ∉ st.cols → x j = 0) ∧ ∀ k, k < st.U.length → appF n R x (st.rows.getD k 0) % p = b (st.rows.getD k 0) % p := by
  obtain ⟨x', hx'⟩ := (h.core hp).surj hp fun k => b (st.rows.getD k 0)
  refine ⟨putV st.cols x', fun j hj => putV_off hj, fun k hk => ?_⟩
  unfold appF
  rw [putV_sum (fun c hc => h.cols_lt hc), h.lk]
  exact hx' k hk
theorem ElOk.own_one (hp : HasInv p) (h : ElOk p n R m st) {x y : Nat → Int} (hx : ∀ j, j < n → j ∉ st.cols → x j % p = y j % p) (he : ∀ k, k < st.U.length → appF n R x (st.rows.getD k 0) % p = appF n R y (st.rows.getD k 0) % p) : ∀ j, j < n → x j % p = y j % p := by
  have hz := (h.core hp).inj hp (y := fun l => x (st.cols.getD l 0) - y (st.cols.getD l 0)) fun i hi => by
    have h1 := he i hi
    rw [mz_sub] at h1
    unfold appF at h1
    rw [show (sm n fun j => (R (st.rows.getD i 0)).getD j 0 * x j) - (sm n fun j => (R (st.rows.getD i 0)).getD j 0 * y j) = sm n fun j => (R (st.rows.getD i 0)).getD j 0 * (x j - y j) by
      rw [Int.sub_eq_add_neg, ← sm_neg, ← sm_add]
      exact sm_congr fun j _ => by grind] at h1
    have h2 : (sm n fun j => (R (st.rows.getD i 0)).getD j 0 * (x j - y j)) % p = (sm n fun j => (R (st.rows.getD i 0)).getD j 0 * putV st.cols (fun l => x (st.cols.getD l 0) - y (st.cols.getD l 0)) j) % p := sm_mod fun j hj => by
      by_cases hc : j ∈ st.cols
      · obtain ⟨l, hl, e⟩ := List.getElem_of_mem hc
        have e' : st.cols.getD l 0 = j := by rw [List.getD, List.getElem?_eq_getElem hl]; exact e
        have hinj : ∀ l', l' < st.cols.length → (j = st.cols.getD l' 0 ↔ l' = l) := fun l' hl' => by
          constructor
          · intro e2
            exact h.ech.inj (show l' < _ by rw [← h.lk]; exact hl') (by rw [← h.lk]; exact hl) (e2.symm.trans e'.symm)
          · intro e2; rw [e2, e']
        unfold putV
        rw [sm_congr (g := fun l' => if l' = l then x (st.cols.getD l' 0) - y (st.cols.getD l' 0) else 0) fun l' hl' => by
          by_cases e2 : l' = l
          · rw [if_pos ((hinj l' hl').2 e2), if_pos e2]
          · rw [if_neg (fun e3 => e2 ((hinj l' hl').1 e3)), if_neg e2], sm_single (fun l' => x (st.cols.getD l' 0) - y (st.cols.getD l' 0)) hl, e']
      · rw [putV_off hc, Int.mul_zero]
        rw [mz_mul (mz_sub.1 (hx j hj hc))]
        simp
    rw [h2, putV_sum (fun c hc => h.cols_lt hc), h.lk] at h1
    exact h1
  intro j hj
  by_cases hc : j ∈ st.cols
  · obtain ⟨l, hl, e⟩ := List.getElem_of_mem hc
    have := hz l (by rw [← h.lk]; exact hl)
    rw [show st.cols.getD l 0 = j by rw [List.getD, List.getElem?_eq_getElem hl]; exact e] at this
    exact mz_sub.2 this
  · exact hx j hj hc
end
end Go.Proofs.YthomeenmcajmdaaGreatDoor
namespace Go.Proofs.YthomeenmcajmdaaGreatDoor
variable {p : Int} {m n : Nat} {xs : List Int}
def ofF (p : Int) (n : Nat) (z : Nat → Int) : List Int := tab n fun j => z j % p
theorem ofF_len (z : Nat → Int) : (ofF p n z).length = n := tab_len _ _
theorem ofF_get {z : Nat → Int} {j : Nat} (hj : j < n) : (ofF p n z).getD j 0 = z j % p := tab_get _ hj
theorem ofF_rng (hp : 2 ≤ p) (z : Nat → Int) : Rng p (ofF p n z) := tab_rng fun _ _ => mod_range _ hp
def atV (x : List Int) : Nat → Int := fun j => x.getD j 0
theorem vec_ext {x y : List Int} (hp : 2 ≤ p) (hx : x.length = n) (hy : y.length = n) (rx : Rng p x) (ry : Rng p y) (h : ∀ j, j < n → atV x j % p = atV y j % p) : x = y :=
  list_ext (by rw [hx, hy]) fun j hj => by
    have := h j (by omega)
    unfold atV at this
    rwa [mod_small (rx.getD hp j).1 (rx.getD hp j).2, mod_small (ry.getD hp j).1 (ry.getD hp j).2] at this
theorem app_mod {R : Nat → List Int} {x y : Nat → Int} (h : ∀ j, j < n → x j % p = y j % p) (i : Nat) : appF n R x i % p = appF n R y i % p :=
  sm_mod fun j hj => by rw [← mm_r, h j hj, mm_r]
theorem times_get {x : List Int} {i : Nat} (hi : i < m) : (timesL p m n xs x).getD i 0 = appF n (rowOf n xs) (atV x) i % p := by
  unfold timesL
  rw [tab_get _ hi]
  exact congrArg (· % p) (sm_congr fun j hj => by rw [show (rowOf n xs i).getD j 0 = xs.getD (i * n + j) 0 from tab_get _ hj]; rfl)
def lefF (m : Nat) (R : Nat → List Int) (y : Nat → Int) (k : Nat) : Int := sm m fun i => y i * (R i).getD k 0
theorem left_get {y : List Int} {k : Nat} (hk : k < n) : (leftL p m n xs y).getD k 0 = lefF m (rowOf n xs) (atV y) k % p := by
  unfold leftL
  rw [tab_get _ hk]
  exact congrArg (· % p) (sm_congr fun i _ => by rw [show (rowOf n xs i).getD k 0 = xs.getD (i * n + k) 0 from tab_get _ hk, Int.mul_comm]; rfl)
theorem times_eq {x b : List Int} (hp : 2 ≤ p) (hb : b.length = m) (hr : Rng p b) (h : ∀ i, i < m → appF n (rowOf n xs) (atV x) i % p = atV b i % p) : timesL p m n xs x = b :=
  list_ext (by rw [timesL_len, hb]) fun i hi => by
    rw [timesL_len] at hi
    rw [times_get hi, h i hi]
    exact mod_small (hr.getD hp i).1 (hr.getD hp i).2
theorem zeros_rng (hp : 2 ≤ p) (k : Nat) : Rng p (List.replicate k 0) := fun x hx => by rw [List.eq_of_mem_replicate hx]; omega
theorem left_zero {y : List Int} (h : ∀ k, k < n → lefF m (rowOf n xs) (atV y) k % p = 0) : leftL p m n xs y = List.replicate n 0 :=
  list_ext (by rw [leftL_len, List.length_replicate]) fun k hk => by
    rw [leftL_len] at hk
    rw [left_get hk, h k hk, replicate_get]
structure IsX (p : Int) (m n : Nat) (xs b x : List Int) : Prop where
  len : x.length = n
  rng : Rng p x
  sol : timesL p m n xs x = b
  off : ∀ j, j < n → j ∉ (takeL p m n xs).cols → x.getD j 0 = 0
theorem IsX.one {b x y : List Int} (ok : MatOk p m n xs) (hf : Fld p) (hx : IsX p m n xs b x) (hy : IsX p m n xs b y) : x = y := by
  have hp := (rightB_true ok.hp).1
  have h := takeL_ok (m := m) (n := n) hp hf ok.hx
  refine vec_ext hp hx.len hy.len hx.rng hy.rng (h.own_one (hf.has hp) (fun j hj hc => by unfold atV; rw [hx.off j hj hc, hy.off j hj hc]) fun k hk => ?_)
  have hl := h.low k (by rw [h.lr]; exact hk)
  have e1 := times_get (p := p) (n := n) (xs := xs) (x := x) hl
  have e2 := times_get (p := p) (n := n) (xs := xs) (x := y) hl
  rw [← e1, ← e2, hx.sol, hy.sol]
theorem IsX.of {b : List Int} (ok : MatOk p m n xs) (hf : Fld p) (hb : b.length = m) (hr : Rng p b) {x0 : Nat → Int} (h0 : ∀ i, i < m → appF n (rowOf n xs) x0 i % p = atV b i % p) : ∃ x, IsX p m n xs b x := by
  have hp := (rightB_true ok.hp).1
  have h := takeL_ok (m := m) (n := n) hp hf ok.hx
  obtain ⟨z, hz0, hz⟩ := h.own_sol (hf.has hp) (atV b)
  have hall : ∀ i, i < m → appF n (rowOf n xs) z i % p = atV b i % p := fun i hi =>
    (h.all_rows (hf.has hp) (x := z) (x0 := x0) (fun k hk => (hz k hk).trans (h0 _ (h.low k (by rw [h.lr]; exact hk))).symm) hi).trans (h0 i hi)
  refine ⟨ofF p n z, ofF_len _, ofF_rng hp _, times_eq hp hb hr fun i hi => ?_, fun j hj hc => by rw [ofF_get hj, hz0 j hc]; simp⟩
  rw [← hall i hi]
  exact app_mod (fun j hj => by unfold atV; rw [ofF_get hj, Int.emod_emod]) i
theorem IsX.of_times {b x0 : List Int} (ok : MatOk p m n xs) (hf : Fld p) (h : timesL p m n xs x0 = b) : ∃ x, IsX p m n xs b x := by
  have hp := (rightB_true ok.hp).1
  refine IsX.of ok hf (by rw [← h, timesL_len]) (by rw [← h]; exact timesL_rng hp _ _ _ _) (x0 := atV x0) fun i hi => ?_
  rw [← h]
  unfold atV
  rw [times_get hi, Int.emod_emod]; rfl
def freeC (n : Nat) (cols : List Nat) : Nat := (List.range n).findIdx fun j => decide (j ∉ cols)
theorem freeC_le (n : Nat) (cols : List Nat) : freeC n cols ≤ n := by
  have := List.findIdx_le_length (xs := List.range n) (p := fun j => decide (j ∉ cols))
  rwa [List.length_range] at this
theorem freeC_low {cols : List Nat} {j : Nat} (h : j < freeC n cols) : j ∈ cols := by
  have hj : j < (List.range n).length := by rw [List.length_range]; exact Nat.lt_of_lt_of_le h (freeC_le n cols)
  have := List.not_of_lt_findIdx h
  simpa using this
theorem freeC_not {cols : List Nat} (h : freeC n cols < n) : freeC n cols ∉ cols := by
  have h' : (List.range n).findIdx (fun j => decide (j ∉ cols)) < (List.range n).length := by rw [List.length_range]; exact h
  have := List.findIdx_getElem (w := h')
  simp only [List.getElem_range, decide_eq_true_eq] at this
  exact this
theorem freeC_lt {cols : List Nat} (hn : cols.Nodup) (hb : ∀ c ∈ cols, c < n) : freeC n cols < n ↔ cols.length < n := by
  have h1 := offE_len hn hb
  constructor
  · intro h
    have : freeC n cols ∈ offE n cols := offE_mem.2 ⟨h, freeC_not h⟩
    have := List.length_pos_of_mem this
    omega
  · intro h
    rcases Nat.lt_or_ge (freeC n cols) n with c | c
    · exact c
    · exfalso
      have : offE n cols = [] := by
        rw [List.eq_nil_iff_forall_not_mem]
        intro l hl
        obtain ⟨h2, h3⟩ := offE_mem.1 hl
        exact h3 (freeC_low (n := n) (by omega))
      rw [this] at h1
      simp at h1
      omega
structure IsK (p : Int) (m n : Nat) (xs x : List Int) : Prop where
  len : x.length = n
  rng : Rng p x
  sol : timesL p m n xs x = List.replicate m 0
  free : x.getD (freeC n (takeL p m n xs).cols) 0 = 1
  off : ∀ j, j < n → j ∉ (takeL p m n xs).cols → j ≠ freeC n (takeL p m n xs).cols → x.getD j 0 = 0
theorem IsK.one {x y : List Int} (ok : MatOk p m n xs) (hf : Fld p) (hx : IsK p m n xs x) (hy : IsK p m n xs y) : x = y := by
  have hp := (rightB_true ok.hp).1
  have h := takeL_ok (m := m) (n := n) hp hf ok.hx
  refine vec_ext hp hx.len hy.len hx.rng hy.rng (h.own_one (hf.has hp) (fun j hj hc => ?_) fun k hk => ?_)
  · unfold atV
    by_cases e : j = freeC n (takeL p m n xs).cols
    · rw [e, hx.free, hy.free]
    · rw [hx.off j hj hc e, hy.off j hj hc e]
  · have hl := h.low k (by rw [h.lr]; exact hk)
    have e1 := times_get (p := p) (n := n) (xs := xs) (x := x) hl
    have e2 := times_get (p := p) (n := n) (xs := xs) (x := y) hl
    rw [← e1, ← e2, hx.sol, hy.sol]
theorem app_add (R : Nat → List Int) (x y : Nat → Int) (i : Nat) : appF n R (fun j => x j + y j) i = appF n R x i + appF n R y i := by
  unfold appF
  rw [← sm_add]
  exact sm_congr fun j _ => by grind
theorem IsK.of (ok : MatOk p m n xs) (hf : Fld p) (hr : (takeL p m n xs).U.length < n) : ∃ x, IsK p m n xs x := by
  have hp := (rightB_true ok.hp).1
  have h := takeL_ok (m := m) (n := n) hp hf ok.hx
  obtain ⟨f, hfe⟩ : ∃ f, freeC n (takeL p m n xs).cols = f := ⟨_, rfl⟩
  have hfn : f < n := by rw [← hfe]; exact (freeC_lt h.cols_nodup fun c hc => h.cols_lt hc).2 (by rw [h.lk]; exact hr)
  have hfc : f ∉ (takeL p m n xs).cols := by
    have := freeC_not (n := n) (cols := (takeL p m n xs).cols) (by rw [hfe]; exact hfn)
    rwa [hfe] at this
  let u : Nat → Int := fun j => if j = f then -1 else 0
  obtain ⟨z, hz0, hz⟩ := h.own_sol (hf.has hp) fun i => appF n (rowOf n xs) u i
  have hall : ∀ i, i < m → appF n (rowOf n xs) z i % p = appF n (rowOf n xs) u i % p := fun i hi => h.all_rows (hf.has hp) hz hi
  refine ⟨ofF p n fun j => z j + if j = f then 1 else 0, ofF_len _, ofF_rng hp _, times_eq hp (List.length_replicate ..) (zeros_rng hp m) fun i hi => ?_, ?_, fun j hj hc hne => ?_⟩
  · have e1 : appF n (rowOf n xs) (atV (ofF p n fun j => z j + if j = f then 1 else 0)) i % p = appF n (rowOf n xs) (fun j => z j + if j = f then 1 else 0) i % p := app_mod (fun j hj => by unfold atV; rw [ofF_get hj, Int.emod_emod]) i
    rw [e1, app_add, Int.add_emod, hall i hi, ← Int.add_emod, ← app_add]
    have e2 : appF n (rowOf n xs) (fun j => u j + if j = f then 1 else 0) i = 0 := sm_zero fun j _ => by
      by_cases e : j = f <;> simp [u, e]
    rw [e2]
    unfold atV
    rw [replicate_get]
  · rw [hfe, ofF_get hfn, hz0 f hfc, if_pos rfl]
    exact (hf.has hp).one
  · rw [hfe] at hne
    rw [ofF_get hj, hz0 j hc, if_neg hne]
    simp
structure IsY (p : Int) (m n : Nat) (xs : List Int) (i : Nat) (y : List Int) : Prop where
  len : y.length = m
  rng : Rng p y
  sol : leftL p m n xs y = List.replicate n 0
  own : y.getD i 0 = 1
  off : ∀ k, k < m → k ∉ (takeL p m n xs).rows → k ≠ i → y.getD k 0 = 0
theorem lef_add (R : Nat → List Int) (x y : Nat → Int) (k : Nat) : lefF m R (fun i => x i + y i) k = lefF m R x k + lefF m R y k := by
  unfold lefF
  rw [← sm_add]
  exact sm_congr fun i _ => by grind
theorem lef_put {rows : List Nat} {R : Nat → List Int} {c : Nat → Int} (hb : ∀ k ∈ rows, k < m) (j : Nat) : lefF m R (putV rows c) j = sm rows.length fun l => c l * (R (rows.getD l 0)).getD j 0 := by
  unfold lefF
  rw [sm_congr (g := fun i => (R i).getD j 0 * putV rows c i) fun i _ => Int.mul_comm _ _, putV_sum hb]
  exact sm_congr fun l _ => Int.mul_comm _ _
theorem ElOk.rows_lt {R : Nat → List Int} {st : ElE} (h : ElOk p n R m st) {k : Nat} (hk : k ∈ st.rows) : k < m := by
  obtain ⟨i, hi, rfl⟩ := List.getElem_of_mem hk
  have := h.low i hi
  rwa [List.getD, List.getElem?_eq_getElem hi] at this
theorem ElOk.rows_one {R : Nat → List Int} {st : ElE} (h : ElOk p n R m st) {i k : Nat} (hi : i < st.rows.length) (hk : k < st.rows.length) (e : st.rows.getD i 0 = st.rows.getD k 0) : i = k := by
  rcases Nat.lt_trichotomy i k with c | c | c
  · have := h.inc i k c hk; omega
  · exact c
  · have := h.inc k i c hi; omega
theorem putV_at {rows : List Nat} {c : Nat → Int} {l : Nat} (hl : l < rows.length) (hi : ∀ i k, i < rows.length → k < rows.length → rows.getD i 0 = rows.getD k 0 → i = k) : putV rows c (rows.getD l 0) = c l := by
  unfold putV
  rw [sm_congr (g := fun k => if k = l then c k else 0) fun k hk => by
    by_cases e : k = l
    · rw [if_pos (by rw [e]), if_pos e]
    · rw [if_neg (fun h => e (hi _ _ hl hk h).symm), if_neg e], sm_single c hl]
theorem IsY.of (ok : MatOk p m n xs) (hf : Fld p) {i : Nat} (hi : i < m) (hc : i ∉ (takeL p m n xs).rows) : ∃ y, IsY p m n xs i y := by
  have hp := (rightB_true ok.hp).1
  have h := takeL_ok (m := m) (n := n) hp hf ok.hx
  obtain ⟨c, hcc⟩ := h.row_own (hf.has hp) hi
  let z : Nat → Int := fun k => putV (takeL p m n xs).rows (fun l => -c l) k + if k = i then 1 else 0
  refine ⟨ofF p m z, ofF_len _, ofF_rng hp _, left_zero fun j hj => ?_, ?_, fun k hk hkc hki => ?_⟩
  · have e1 : lefF m (rowOf n xs) (atV (ofF p m z)) j % p = lefF m (rowOf n xs) z j % p := sm_mod fun k hk => by
      unfold atV
      rw [ofF_get hk, mm_l]
    have e2 : lefF m (rowOf n xs) (fun k => if k = i then 1 else 0) j = (rowOf n xs i).getD j 0 := by
      unfold lefF
      rw [sm_congr (g := fun k => if k = i then (rowOf n xs k).getD j 0 else 0) fun k _ => by by_cases e : k = i <;> simp [e]]
      exact sm_single (fun k => (rowOf n xs k).getD j 0) hi
    rw [e1, lef_add, lef_put (fun k hk => h.rows_lt hk), e2, h.lr]
    have e3 := mz_sub.1 (hcc j hj)
    have e4 : (sm (takeL p m n xs).U.length fun l => -c l * (rowOf n xs ((takeL p m n xs).rows.getD l 0)).getD j 0) = -(sm (takeL p m n xs).U.length fun l => c l * lf (rowOf n xs ((takeL p m n xs).rows.getD l 0)) j) := by
      rw [← sm_neg]
      exact sm_congr fun l _ => by rw [Int.neg_mul]; rfl
    rw [e4, Int.add_comm]
    exact e3
  · rw [ofF_get hi]
    show (putV (takeL p m n xs).rows (fun l => -c l) i + if i = i then 1 else 0) % p = 1
    rw [putV_off hc, if_pos rfl]
    exact (hf.has hp).one
  · rw [ofF_get hk]
    show (putV (takeL p m n xs).rows (fun l => -c l) k + if k = i then 1 else 0) % p = 0
    rw [putV_off hkc, if_neg hki]
    simp
theorem lef_own {z : Nat → Int} (ok : MatOk p m n xs) (hf : Fld p) (hz : ∀ k, k < m → k ∉ (takeL p m n xs).rows → z k % p = 0) (h0 : ∀ j, j < n → lefF m (rowOf n xs) z j % p = 0) : ∀ k, k < m → z k % p = 0 := by
  have hp := (rightB_true ok.hp).1
  have h := takeL_ok (m := m) (n := n) hp hf ok.hx
  have hfree := h.free (hf.has hp) (fun l => z ((takeL p m n xs).rows.getD l 0)) fun j hj => by
    have h1 := h0 j hj
    have e : lefF m (rowOf n xs) z j % p = lefF m (rowOf n xs) (putV (takeL p m n xs).rows fun l => z ((takeL p m n xs).rows.getD l 0)) j % p := sm_mod fun k hk => by
      by_cases hc : k ∈ (takeL p m n xs).rows
      · obtain ⟨l, hl, e⟩ := List.getElem_of_mem hc
        have e' : (takeL p m n xs).rows.getD l 0 = k := by rw [List.getD, List.getElem?_eq_getElem hl]; exact e
        have e2 := putV_at (c := fun l => z ((takeL p m n xs).rows.getD l 0)) hl fun i k hi hk => h.rows_one hi hk
        simp only [e'] at e2
        rw [e2]
      · rw [putV_off hc, Int.zero_mul, mz_mul' (hz k hk hc)]
        simp
    rw [e, lef_put (fun k hk => h.rows_lt hk), h.lr] at h1
    exact h1
  intro k hk
  by_cases hc : k ∈ (takeL p m n xs).rows
  · obtain ⟨l, hl, e⟩ := List.getElem_of_mem hc
    have e' : (takeL p m n xs).rows.getD l 0 = k := by rw [List.getD, List.getElem?_eq_getElem hl]; exact e
    have := hfree l (by rw [← h.lr]; exact hl)
    rwa [e'] at this
  · exact hz k hk hc
theorem IsY.one {i : Nat} {x y : List Int} (ok : MatOk p m n xs) (hf : Fld p) (hx : IsY p m n xs i x) (hy : IsY p m n xs i y) : x = y := by
  have hp := (rightB_true ok.hp).1
  refine vec_ext hp hx.len hy.len hx.rng hy.rng fun k hk => mz_sub.2 (lef_own ok hf (z := fun k => atV x k - atV y k) (fun k hk hc => ?_) (fun j hj => ?_) k hk)
  · unfold atV
    by_cases e : k = i
    · rw [e, hx.own, hy.own]; simp
    · rw [hx.off k hk hc e, hy.off k hk hc e]; simp
  · have e1 := left_get (p := p) (m := m) (xs := xs) (y := x) hj
    have e2 := left_get (p := p) (m := m) (xs := xs) (y := y) hj
    rw [hx.sol, replicate_get] at e1
    rw [hy.sol, replicate_get] at e2
    have e : lefF m (rowOf n xs) (fun k => atV x k - atV y k) j = lefF m (rowOf n xs) (atV x) j + -lefF m (rowOf n xs) (atV y) j := by
      unfold lefF
      rw [← sm_neg, ← sm_add]
      exact sm_congr fun k _ => by grind
    rw [e]
    exact mz_add e1.symm (mz_neg e2.symm)
end Go.Proofs.YthomeenmcajmdaaGreatDoor
namespace Go.Proofs.YthomeenmcajmdaaGreatDoor
variable {p : Int} {m n : Nat} {xs : List Int}
def dotF (m : Nat) (y b : Nat → Int) : Int := sm m fun k => y k * b k
theorem lef_app (R : Nat → List Int) (y x : Nat → Int) : (sm n fun j => lefF m R y j * x j) = sm m fun i => y i * appF n R x i := by
  unfold lefF appF
  rw [sm_congr (g := fun j => sm m fun i => y i * ((R i).getD j 0 * x j)) fun j _ => by
    rw [← sm_mul_r]
    exact sm_congr fun i _ => by rw [Int.mul_assoc], sm_comm]
  exact sm_congr fun i _ => sm_mul _ _ _
theorem IsY.kill {i : Nat} {y : List Int} (hy : IsY p m n xs i y) (x : Nat → Int) : (sm m fun k => atV y k * appF n (rowOf n xs) x k) % p = 0 := by
  rw [← lef_app]
  refine sm_mz fun j hj => mz_mul' ?_ _
  have := left_get (p := p) (m := m) (xs := xs) (y := y) hj
  rw [hy.sol, replicate_get] at this
  exact this.symm
theorem IsX.none {b x : List Int} (hx : IsX p m n xs b x) {i : Nat} {y : List Int} (hy : IsY p m n xs i y) : dotF m (atV y) (atV b) % p = 0 := by
  have h := hy.kill (atV x)
  have e : dotF m (atV y) (atV b) % p = (sm m fun k => atV y k * appF n (rowOf n xs) (atV x) k) % p := sm_mod fun k hk => by
    have h1 := times_get (p := p) (n := n) (xs := xs) (x := x) hk
    rw [hx.sol] at h1
    rw [← mm_r, show atV b k = b.getD k 0 from rfl, h1, Int.emod_emod, mm_r]
  rw [e, h]
theorem IsX.or {b : List Int} (ok : MatOk p m n xs) (hf : Fld p) (hb : b.length = m) (hr : Rng p b) (h0 : ∀ i y, i < m → i ∉ (takeL p m n xs).rows → IsY p m n xs i y → dotF m (atV y) (atV b) % p = 0) : ∃ x, IsX p m n xs b x := by
  have hp := (rightB_true ok.hp).1
  have h := takeL_ok (m := m) (n := n) hp hf ok.hx
  obtain ⟨z, hz0, hz⟩ := h.own_sol (hf.has hp) (atV b)
  have hrow : ∀ k, k < m → k ∈ (takeL p m n xs).rows → appF n (rowOf n xs) z k % p = atV b k % p := fun k _ hk => by
    obtain ⟨l, hl, e⟩ := List.getElem_of_mem hk
    have := hz l (by rw [← h.lr]; exact hl)
    rwa [show (takeL p m n xs).rows.getD l 0 = k by rw [List.getD, List.getElem?_eq_getElem hl]; exact e] at this
  refine IsX.of ok hf hb hr (x0 := z) fun i hi => ?_
  by_cases hc : i ∈ (takeL p m n xs).rows
  · exact hrow i hi hc
  · obtain ⟨y, hy⟩ := IsY.of ok hf hi hc
    have h1 := hy.kill z
    have h2 := h0 i y hi hc hy
    have e : ((sm m fun k => atV y k * appF n (rowOf n xs) z k) - dotF m (atV y) (atV b)) % p = (appF n (rowOf n xs) z i - atV b i) % p := by
      unfold dotF
      rw [Int.sub_eq_add_neg, ← sm_neg, ← sm_add, sm_mod (g := fun k => if k = i then appF n (rowOf n xs) z i - atV b i else 0) fun k hk => ?_, sm_single (fun _ => appF n (rowOf n xs) z i - atV b i) hi]
      by_cases hki : k = i
      · subst hki
        rw [if_pos rfl, show atV y k = 1 from hy.own]
        congr 1
        omega
      · rw [if_neg hki]
        by_cases hkc : k ∈ (takeL p m n xs).rows
        · have h3 := mz_sub.1 (hrow k hk hkc)
          rw [show atV y k * appF n (rowOf n xs) z k + -(atV y k * atV b k) = atV y k * (appF n (rowOf n xs) z k - atV b k) by grind, mz_mul h3]
          simp
        · rw [show atV y k = 0 from hy.off k hk hkc hki]
          simp
    rw [mz_sub, ← e]
    have h3 := mz_add h1 (mz_neg h2)
    rwa [Int.sub_eq_add_neg]
theorem mulL_assoc (a b c : List Int) : mulL p n n n a (mulL p n n n b c) = mulL p n n n (mulL p n n n a b) c := by
  unfold mulL
  refine grid_congr fun i k hi hk => ?_
  have h := dv_assoc (p := p) n n (fun j => a.getD (i * n + j) 0) (fun l => c.getD (l * n + k) 0) fun j l => b.getD (j * n + l) 0
  refine Eq.trans (dv_congr (fun _ _ => rfl) fun j hj => ?_) (h.trans (dv_congr (fun l hl => ?_) fun _ _ => rfl))
  · exact grid_get _ hj hk
  · exact (grid_get (fun i k => dv p n (fun j => a.getD (i * n + j) 0) fun j => b.getD (j * n + k) 0) hi hl).symm
structure IsInv (p : Int) (n : Nat) (xs vs : List Int) : Prop where
  len : vs.length = n * n
  rng : Rng p vs
  one : mulL p n n n xs vs = oneL n
theorem mul_inj (ok : MatOk p n n xs) (hf : Fld p) (hr : (takeL p n n xs).U.length = n) {ys zs : List Int} (hy : ys.length = n * n) (hz : zs.length = n * n) (ry : Rng p ys) (rz : Rng p zs) (h : mulL p n n n xs ys = mulL p n n n xs zs) : ys = zs := by
  have hp := (rightB_true ok.hp).1
  have ho := takeL_ok (m := n) (n := n) hp hf ok.hx
  have hcols : ∀ j, j < n → j ∈ (takeL p n n xs).cols := fun j hj => by
    have hfc := (freeC_lt (n := n) ho.cols_nodup fun c hc => ho.cols_lt hc)
    rw [ho.lk, hr] at hfc
    have hle := freeC_le n (takeL p n n xs).cols
    have hge : n ≤ freeC n (takeL p n n xs).cols := Nat.le_of_not_lt fun hlt => by have := hfc.1 hlt; omega
    exact freeC_low (n := n) (by omega)
  refine vec_ext (n := n * n) hp hy hz ry rz fun t ht => ?_
  have hn : 1 ≤ n := ok.hn.1
  have hi : t / n < n := (Nat.div_lt_iff_lt_mul (by omega)).2 ht
  have hj : t % n < n := Nat.mod_lt _ (by omega)
  have e : t / n * n + t % n = t := by rw [Nat.mul_comm]; exact Nat.div_add_mod t n
  have key := ho.own_one (hf.has hp) (x := fun j => ys.getD (j * n + t % n) 0) (y := fun j => zs.getD (j * n + t % n) 0) (fun j hj' hc => absurd (hcols j hj') hc) fun k hk => by
    have hl := ho.low k (by rw [ho.lr]; exact hk)
    have g : ∀ ws : List Int, (mulL p n n n xs ws).getD ((takeL p n n xs).rows.getD k 0 * n + t % n) 0 = appF n (rowOf n xs) (fun j => ws.getD (j * n + t % n) 0) ((takeL p n n xs).rows.getD k 0) % p := fun ws => by
      rw [mulL, grid_get _ hl hj]
      exact congrArg (· % p) (sm_congr fun j hj' => by rw [show (rowOf n xs ((takeL p n n xs).rows.getD k 0)).getD j 0 = xs.getD ((takeL p n n xs).rows.getD k 0 * n + j) 0 from tab_get _ hj'])
    rw [← g ys, ← g zs, h]
  have := key (t / n) hi
  simp only [e] at this
  exact this
theorem IsInv.of (ok : MatOk p n n xs) (hf : Fld p) (hr : (takeL p n n xs).U.length = n) : ∃ vs, IsInv p n xs vs := by
  have hp := (rightB_true ok.hp).1
  have ho := takeL_ok (m := n) (n := n) hp hf ok.hx
  have hrows := inc_id (by rw [ho.lr, hr]) ho.inc ho.low
  have hex : ∀ k, ∃ x : Nat → Int, ∀ i, i < n → appF n (rowOf n xs) x i % p = (if i = k then 1 else 0) % p := fun k => by
    obtain ⟨z, _, hz⟩ := ho.own_sol (hf.has hp) fun i => if i = k then 1 else 0
    refine ⟨z, fun i hi => ?_⟩
    have := hz i (by rw [hr]; exact hi)
    rwa [hrows i hi] at this
  have hch : ∃ x : Nat → Nat → Int, ∀ k i, i < n → appF n (rowOf n xs) (x k) i % p = (if i = k then 1 else 0) % p := ⟨fun k => Classical.choose (hex k), fun k => Classical.choose_spec (hex k)⟩
  obtain ⟨x, hx⟩ := hch
  refine ⟨grid n n fun j k => x k j % p, grid_len _ _ _, grid_rng fun _ _ _ _ => mod_range _ hp, ?_⟩
  unfold mulL oneL
  refine grid_congr fun i k hi hk => ?_
  have e : dv p n (fun j => xs.getD (i * n + j) 0) (fun j => (grid n n fun j k => x k j % p).getD (j * n + k) 0) = appF n (rowOf n xs) (x k) i % p := by
    unfold dv appF
    refine sm_mod fun j hj => ?_
    show xs.getD (i * n + j) 0 * (grid n n fun j k => x k j % p).getD (j * n + k) 0 % p = (rowOf n xs i).getD j 0 * x k j % p
    rw [grid_get _ hj hk, mm_r, show (rowOf n xs i).getD j 0 = xs.getD (i * n + j) 0 from tab_get _ hj]
  rw [e, hx k i hi]
  split
  · exact (hf.has hp).one
  · simp
theorem IsInv.left {vs : List Int} (ok : MatOk p n n xs) (hf : Fld p) (hr : (takeL p n n xs).U.length = n) (h : IsInv p n xs vs) : mulL p n n n vs xs = oneL n := by
  have hp := (rightB_true ok.hp).1
  refine mul_inj ok hf hr (mulL_len _ _ _ _ _) (oneL_len n) (mulL_rng hp _ _ _ _ _) (oneL_rng hp n) ?_
  rw [mulL_assoc, h.one, one_mul ok.hl ok.hx, mul_one ok.hl ok.hx]
theorem det_one (n : Nat) : detF n (atF n (oneL n)) = 1 := by
  rw [← det_id n]
  unfold detF
  rw [show idF n = (List.range n).map eR from rfl]
  exact detF_congr n (A := atF n (oneL n)) (B := fun i => eR i) fun i j hi hj => by
    show (oneL n).getD (i * n + j) 0 = if j = i then 1 else 0
    rw [oneL, grid_get _ hi hj]
    by_cases e : i = j
    · rw [if_pos e, if_pos e.symm]
    · rw [if_neg e, if_neg (fun h => e h.symm)]
theorem IsInv.det {vs : List Int} (ok : MatOk p n n xs) (hf : Fld p) (h : IsInv p n xs vs) : minv p (detF n (atF n xs) % p) = detF n (atF n vs) % p := by
  have hp := (rightB_true ok.hp).1
  have hd := det_product (n := n) (ys := vs) hp hf ok.hx
  rw [h.one, det_one, (hf.has hp).one] at hd
  exact minv_eq (mod_range _ hp).1 (mod_range _ hp).2 hd.symm
theorem IsInv.mul {ys us vs : List Int} (ok : MatOk p n n xs) (hu : IsInv p n xs us) (hv : IsInv p n ys vs) : IsInv p n (mulL p n n n xs ys) (mulL p n n n vs us) := by
  have hp := (rightB_true ok.hp).1
  refine ⟨mulL_len _ _ _ _ _, mulL_rng hp _ _ _ _ _, ?_⟩
  rw [← mulL_assoc, mulL_assoc ys, hv.one, one_mul hu.len hu.rng, hu.one]
end Go.Proofs.YthomeenmcajmdaaGreatDoor
