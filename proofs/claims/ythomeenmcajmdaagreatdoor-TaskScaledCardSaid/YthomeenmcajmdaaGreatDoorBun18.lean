import Derived.Test.YthomeenmcajmdaaGreatDoorBun16
import Derived.Test.YthomeenmcajmdaaGreatDoorBun06
import Derived.Deep.RegionHeld3
import Derived.Test.YthomeenmcajmdaaGreatDoorBun02
import Derived.Test.YthomeenmcajmdaaGreatDoorBun17
import Derived.Maps.AppendAt
namespace Go.Proofs.YthomeenmcajmdaaGreatDoor
variable {p : Int} {n m : Nat} {R : Nat → List Int} {st : ElE}
theorem Comb.add {n r : Nat} {u : Nat → RowF} {v w : RowF} (h : Comb p n r u v) (k : Comb p n r u w) (a b : Int) : Comb p n r u fun j => a * v j + b * w j := by
  have := Comb.sum (p := p) (n := n) (r := r) (m := 2) (u := u) (w := fun i => if i = 0 then v else w) (fun i _ => by
    by_cases e : i = 0
    · simp only [if_pos e]; exact h
    · simp only [if_neg e]; exact k) fun i => if i = 0 then a else b
  refine this.congr fun j _ => ?_
  simp [sm]
theorem Comb.zero {n r : Nat} (u : Nat → RowF) : Comb p n r u fun _ => 0 := ⟨fun _ => 0, fun j _ => by rw [sm_zero fun k _ => by simp]⟩
def offE (k : Nat) (cols : List Nat) : List Nat := (List.range k).filter fun l => decide (l ∉ cols)
theorem offE_mem {k : Nat} {cols : List Nat} {l : Nat} : l ∈ offE k cols ↔ l < k ∧ l ∉ cols := by simp [offE]
theorem offE_len {k : Nat} {cols : List Nat} (hn : cols.Nodup) (hb : ∀ c ∈ cols, c < k) : (offE k cols).length + cols.length = k := by
  have h1 : ((List.range k).filter fun l => decide (l ∈ cols)).length = cols.length := by
    have hp : ((List.range k).filter fun l => decide (l ∈ cols)).Perm cols := by
      rw [List.perm_iff_count]
      intro a
      have hnr : ((List.range k).filter fun l => decide (l ∈ cols)).Nodup := List.Pairwise.filter _ List.nodup_range
      have c1 := List.nodup_iff_count.1 hnr a
      have c2 := List.nodup_iff_count.1 hn a
      have e : (0 < List.count a ((List.range k).filter fun l => decide (l ∈ cols))) ↔ 0 < List.count a cols := by
        rw [List.count_pos_iff, List.count_pos_iff]
        simp only [List.mem_filter, List.mem_range, decide_eq_true_eq]
        exact ⟨fun h => h.2, fun h => ⟨hb a h, h⟩⟩
      omega
    exact hp.length_eq
  have h2 : ∀ l : List Nat, (l.filter fun x => decide (x ∉ cols)).length + (l.filter fun x => decide (x ∈ cols)).length = l.length := by
    intro l
    induction l with
    | nil => rfl
    | cons a l ih =>
      rw [List.filter_cons, List.filter_cons]
      by_cases e : a ∈ cols
      · rw [if_neg (by simp [e]), if_pos (by simp [e])]; simp only [List.length_cons]; omega
      · rw [if_pos (by simp [e]), if_neg (by simp [e])]; simp only [List.length_cons]; omega
  have := h2 (List.range k)
  rw [h1, List.length_range] at this
  exact this
theorem ElOk.cols_nodup (h : ElOk p n R m st) : st.cols.Nodup := by
  unfold List.Nodup
  rw [List.pairwise_iff_getElem]
  intro i k hi hk hik e
  have e' : st.cols.getD i 0 = st.cols.getD k 0 := by simp only [List.getD, List.getElem?_eq_getElem hi, List.getElem?_eq_getElem hk, Option.getD_some]; exact e
  have := h.ech.inj (by have := h.lk; omega) (by have := h.lk; omega) e'
  omega
theorem ElOk.cols_lt (h : ElOk p n R m st) {c : Nat} (hc : c ∈ st.cols) : c < n := by
  obtain ⟨k, hk, rfl⟩ := List.getElem_of_mem hc
  have := (h.row k (by have := h.lk; omega)).2.2.1
  rwa [List.getD, List.getElem?_eq_getElem hk] at this
theorem rowsF_split {i : Nat} (hi : i < n) (R : Nat → List Int) : rowsF n R = (rowsF n R).take i ++ lf (R i) :: (rowsF n R).drop (i + 1) := by
  rw [← rowsF_get (R := R) hi, ← rwF_drop (by rw [rowsF_len]; exact hi), List.take_append_drop]
theorem rowsF_other {i : Nat} {R R' : Nat → List Int} (h : ∀ k, k < n → k ≠ i → R' k = R k) : (rowsF n R').take i = (rowsF n R).take i ∧ (rowsF n R').drop (i + 1) = (rowsF n R).drop (i + 1) := by
  constructor
  · refine List.ext_getElem? fun k => ?_
    simp only [List.getElem?_take, rowsF, List.getElem?_map]
    by_cases hk : k < i
    · rw [if_pos hk, if_pos hk]
      by_cases hn : k < n
      · simp [hn, h k hn (by omega)]
      · simp [hn]
    · rw [if_neg hk, if_neg hk]
  · refine List.ext_getElem? fun k => ?_
    simp only [List.getElem?_drop, rowsF, List.getElem?_map]
    by_cases hn : i + 1 + k < n
    · simp [hn, h _ hn (by omega)]
    · simp [hn]
theorem det_scale {i : Nat} (hi : i < n) {R' : Nat → List Int} {x : Int} (h : ∀ k, k < n → k ≠ i → R' k = R k) (hx : ∀ j, j < n → (R' i).getD j 0 % p = (R i).getD j 0 * x % p) : detN n (rowsF n R') % p = detN n (rowsF n R) * x % p := by
  obtain ⟨e1, e2⟩ := rowsF_other h
  have hl : ∀ y : RowF, ((rowsF n R).take i ++ y :: (rowsF n R).drop (i + 1)).length = n := fun y => by simp [rowsF_len]; omega
  rw [rowsF_split hi R', e1, e2, (detN_alt n).mod (p := p) _ _ (fun j => x * lf (R i) j) _ (hl _) fun j hj => by
    show (R' i).getD j 0 % p = x * (R i).getD j 0 % p
    rw [hx j hj, Int.mul_comm], (detN_alt n).scale _ _ _ x (hl _), ← rowsF_split hi R, Int.mul_comm]
end Go.Proofs.YthomeenmcajmdaaGreatDoor
namespace Go.Proofs.YthomeenmcajmdaaGreatDoor
open Go.RowKit Go.Maps
end Go.Proofs.YthomeenmcajmdaaGreatDoor
namespace Go.Proofs.YthomeenmcajmdaaGreatDoor
open Go.RowKit Go.Maps
def atF (n : Nat) (xs : List Int) : Nat → Nat → Int := fun i j => xs.getD (i * n + j) 0
end Go.Proofs.YthomeenmcajmdaaGreatDoor
namespace Go.Proofs.YthomeenmcajmdaaGreatDoor
variable {p : Int} {m n : Nat} {xs : List Int}
def rowOf (n : Nat) (xs : List Int) (i : Nat) : List Int := tab n fun j => xs.getD (i * n + j) 0
noncomputable def takeL (p : Int) (m n : Nat) (xs : List Int) : ElE := (takeE p n (rowOf n xs) m).getD .nil
theorem rowOf_rng (hp : 2 ≤ p) (hx : Rng p xs) (i : Nat) : (rowOf n xs i).length = n ∧ Rng p (rowOf n xs i) := ⟨tab_len _ _, tab_rng fun _ _ => hx.getD hp _⟩
theorem takeL_some (hp : 2 ≤ p) (hf : Fld p) (hx : Rng p xs) : takeE p n (rowOf n xs) m = some (takeL p m n xs) := by
  obtain ⟨st, h⟩ := takeE_some hp hf m fun i _ => rowOf_rng (n := n) hp hx i
  unfold takeL
  rw [h]; rfl
theorem takeL_ok (hp : 2 ≤ p) (hf : Fld p) (hx : Rng p xs) : ElOk p n (rowOf n xs) m (takeL p m n xs) := takeE_ok hp m (fun i _ => rowOf_rng hp hx i) (takeL_some hp hf hx)
theorem lf_row {i j : Nat} (hj : j < n) : lf (rowOf n xs i) j = atF n xs i j := tab_get _ hj
theorem rowsF_det (n : Nat) (xs : List Int) : detN n (rowsF n (rowOf n xs)) = detF n (atF n xs) :=
  detF_congr n (A := fun i => lf (rowOf n xs i)) fun _ _ _ hj => lf_row hj
theorem mz_prod (hp : HasInv p) {a b : Int} (ha : a % p ≠ 0) (hb : b % p ≠ 0) : a * b % p ≠ 0 := fun h => ha (mz_cancel hp hb h)
theorem prN_ne (hp : HasInv p) {d : Nat → Int} : ∀ n, (∀ k, k < n → d k % p ≠ 0) → prN n d % p ≠ 0
  | 0, _ => by show (1 : Int) % p ≠ 0; rw [hp.one]; omega
  | n + 1, h => mz_prod hp (prN_ne hp n fun k hk => h k (by omega)) (h n (by omega))
theorem det_rank (hp : 2 ≤ p) (hf : Fld p) (hx : Rng p xs) : detF n (atF n xs) % p = 0 ↔ (takeL p n n xs).U.length ≠ n := by
  have ok := takeL_ok (m := n) (n := n) hp hf hx
  have hi := hf.has hp
  have h1 := ok.det hi
  rw [rowsF_det] at h1
  rw [h1]
  unfold detE
  have hle := ok.le
  by_cases h : (takeL p n n xs).U.length < n
  · rw [if_pos h]
    exact ⟨fun _ => by omega, fun _ => by simp⟩
  · rw [if_neg h]
    refine ⟨fun h0 => absurd h0 (mz_prod hi (prN_ne hi n fun k hk => ?_) ?_), fun h0 => absurd (show _ = n by omega) h0⟩
    · exact ok.ech.piv k (by omega)
    · rcases sgn_or (colsZ (takeL p n n xs)) with e | e
      · rw [e, hi.one]; omega
      · rw [e]
        intro h2
        have h3 := mz_neg h2
        rw [show -(-1 : Int) = 1 by rfl, hi.one] at h3
        omega
theorem profile_prefix (hp : 2 ≤ p) (hf : Fld p) (hx : Rng p xs) {k : Nat} (hk : k ≤ m) : ∃ t, (takeL p m n xs).rows = (takeL p k n (xs.take (k * n))).rows ++ t ∧ ∀ x ∈ t, k ≤ x := by
  have h1 := takeL_some (m := k) (n := n) hp hf (hx.take (k * n))
  have h2 := takeL_some (m := m) (n := n) hp hf hx
  have e : takeE p n (rowOf n (xs.take (k * n))) k = takeE p n (rowOf n xs) k := takeE_congr k fun i hi => tab_congr fun j hj => by
    have := at_lt hi hj
    simp only [List.getD, List.getElem?_take, if_pos this]
  rw [e] at h1
  rw [show m = k + (m - k) by omega] at h2 ⊢
  exact takeE_prefix h1 (m - k) h2
end Go.Proofs.YthomeenmcajmdaaGreatDoor
namespace Go.Proofs.YthomeenmcajmdaaGreatDoor
variable {p : Int} {m n : Nat} {xs : List Int}
def padL (r : Nat) (l : List Int) : List Int := l ++ List.replicate (r - l.length) 0
theorem padL_len {r : Nat} {l : List Int} (h : l.length ≤ r) : (padL r l).length = r := by simp [padL]; omega
theorem padL_get (r : Nat) (l : List Int) (k : Nat) : (padL r l).getD k 0 = l.getD k 0 := pad_get _ _ _
theorem map_getD {C : List (List Int)} {f : List Int → List Int} {i : Nat} (h : i < C.length) : (C.map f).getD i [] = f (C.getD i []) := by
  simp [List.getD, List.getElem?_map, List.getElem?_eq_getElem h]
end Go.Proofs.YthomeenmcajmdaaGreatDoor
namespace Go.Proofs.YthomeenmcajmdaaGreatDoor
open Go.RowKit
def RetVI (l : List Int) (w : World) (e : Ending) (w' : World) : Prop := ∃ v, e = .returned (.tuple #[v, .int .i64 0]) ∧ Ints .i64 w' v l ∧ Ext w w'
end Go.Proofs.YthomeenmcajmdaaGreatDoor
namespace Go.Proofs.YthomeenmcajmdaaGreatDoor
open Go.RowKit Go.Maps
def UsL (w : World) (v : Value) (ls : List (List Int)) : Prop :=
  ∃ (a : Option Addr) (cap : Nat), v = .slice a ls.length cap ∧ ls.length ≤ cap ∧ cap ≤ 9223372036854775807 ∧
    (0 < ls.length → ∃ b off, a = some ⟨b, off, none⟩ ∧ b < w.heap.size ∧ ∀ j, j < ls.length → ∃ u, w.cell? ⟨b, off + j, none⟩ = some u ∧ Ints .u64 w u (ls.getD j []))
theorem UsL.ext {w w' : World} {v : Value} {ls : List (List Int)} (h : UsL w v ls) (he : Ext w w') : UsL w' v ls := by
  obtain ⟨a, cap, h1, h2, h3, h4⟩ := h
  refine ⟨a, cap, h1, h2, h3, fun hp => ?_⟩
  obtain ⟨b, off, ha, hb, hc⟩ := h4 hp
  refine ⟨b, off, ha, Nat.lt_of_lt_of_le hb he.size, fun j hj => ?_⟩
  obtain ⟨u, c1, c2⟩ := hc j hj
  exact ⟨u, (he.cells _ _ hb).trans c1, c2.ext he⟩
theorem UsL.nil {w : World} : UsL w (.slice none 0 0) [] := ⟨none, 0, rfl, by simp, by omega, by simp⟩
def RetCup (rows cols : List Int) (C U : List (List Int)) (w : World) (e : Ending) (w' : World) : Prop :=
  ∃ rv cv Cv Uv, e = .returned (.tuple #[.agg #[rv, cv, Cv, Uv], .int .i64 0]) ∧ Ints .i64 w' rv rows ∧ Ints .i64 w' cv cols ∧ UsL w' Cv C ∧ UsL w' Uv U ∧ Ext w w'
structure CupOk (p : Int) (m n : Nat) (C U : List (List Int)) : Prop where
  hp : rightB p = true
  hm : 1 ≤ m ∧ m ≤ 64
  hn : 1 ≤ n ∧ n ≤ 64
  lc : C.length = m
  c : ∀ l ∈ C, l.length = U.length ∧ Rng p l
  u : ∀ l ∈ U, l.length = n ∧ Rng p l
  hu : U.length ≤ 64
noncomputable def profZ (p : Int) (m n : Nat) (xs : List Int) : List Int := (takeL p m n xs).rows.map fun k : Nat => (k : Int)
theorem profZ_len {p : Int} {m n : Nat} {xs : List Int} (ok : MatOk p m n xs) (hf : Fld p) : (profZ p m n xs).length = (takeL p m n xs).U.length := by
  have := (takeL_ok (m := m) (n := n) (rightB_true ok.hp).1 hf ok.hx).lr
  simp [profZ, this]
theorem colsZ_len {p : Int} {m n : Nat} {xs : List Int} (ok : MatOk p m n xs) (hf : Fld p) : (colsZ (takeL p m n xs)).length = (takeL p m n xs).U.length := by
  have := (takeL_ok (m := m) (n := n) (rightB_true ok.hp).1 hf ok.hx).lk
  simp [colsZ, this]
theorem Rng.pad {p : Int} {l : List Int} (h : Rng p l) (hp : 2 ≤ p) (r : Nat) : Rng p (padL r l) := rng_app h fun x hx => by
  rw [List.eq_of_mem_replicate hx]; omega
theorem take_parts {p : Int} {m n : Nat} {xs : List Int} (ok : MatOk p m n xs) (hf : Fld p) : CupOk p m n ((takeL p m n xs).C.map (padL (takeL p m n xs).U.length)) (takeL p m n xs).U := by
  have hp := (rightB_true ok.hp).1
  have h := takeL_ok (m := m) (n := n) hp hf ok.hx
  refine ⟨ok.hp, ok.hm, ok.hn, by rw [List.length_map, h.lc], fun l hl => ?_, fun l hl => ?_, Nat.le_trans h.le ok.hm.2⟩
  · obtain ⟨k, hk, rfl⟩ := List.mem_map.1 hl
    obtain ⟨i, hi, rfl⟩ := List.getElem_of_mem hk
    have := h.cl i (by rw [← h.lc]; exact hi)
    rw [List.getD, List.getElem?_eq_getElem hi] at this
    exact ⟨padL_len this.1, this.2.pad hp _⟩
  · obtain ⟨i, hi, rfl⟩ := List.getElem_of_mem hl
    have := h.row i hi
    rw [List.getD, List.getElem?_eq_getElem hi] at this
    exact ⟨this.1, this.2.1⟩
end Go.Proofs.YthomeenmcajmdaaGreatDoor
namespace Go.Proofs.YthomeenmcajmdaaGreatDoor
variable {p : Int}
def Ser.up (n : Nat) (a : Ser p) : Ser p := .of p fun k => if k < n then 0 else a.co (k - n)
namespace Ser
theorem up_co (n : Nat) (a : Ser p) (k : Nat) : (up n a).co k = if k < n then 0 else a.co (k - n) := by
  show (if k < n then 0 else a.co (k - n)) % p = _
  split
  · exact Int.zero_emod p
  · exact a.ok _
theorem low.up {a : Ser p} {m : Nat} (h : a.low m) (n : Nat) : (up n a).low (n + m) := fun k hk => by
  rw [up_co, if_neg (by omega)]; exact h _ (by omega)
theorem up_mul (n : Nat) (a b : Ser p) : up n a * b = up n (a * b) := ext_ fun k => by
  rw [up_co, mul_co, cv]
  by_cases h : k < n
  · rw [if_pos h, sm_zero fun i hi => by rw [up_co, if_pos (by omega), Int.zero_mul], Int.zero_emod]
  · rw [if_neg h, mul_co, cv, sm_piece n (k - n + 1) (by omega) (fun i hi => by rw [up_co, if_pos hi, Int.zero_mul]) (fun i h1 h2 => by omega)]
    congr 1
    exact sm_congr fun i hi => by rw [up_co, if_neg (by omega), show n + i - n = i by omega, show k - (n + i) = k - n - i by omega]
theorem mul_co_low {a b : Ser p} {k : Nat} (h : ∀ i, 0 < i → i ≤ k → a.co i = 0 ∨ b.co (k - i) = 0) : (a * b).co k = a.co 0 * b.co k % p := by
  rw [mul_co, cv, sm_head, sm_zero (fun i hi => ?_), Int.add_zero, Nat.sub_zero]
  rcases h (i + 1) (by omega) (by omega) with h | h
  · rw [h, Int.zero_mul]
  · rw [h, Int.mul_zero]
end Ser
structure Ob (s c : Ser p) (l n : Nat) : Prop where
  low : c.low (l + 1)
  one : c.co 0 = 1
  obe : ∀ i, l ≤ i → i < n → (c * s).co i = 0
theorem Ob.less {s c : Ser p} {l n m : Nat} (h : Ob s c l n) (hm : m ≤ n) : Ob s c l m := ⟨h.low, h.one, fun i h1 h2 => h.obe i h1 (by omega)⟩
theorem Ob.bound {s c c' : Ser p} {l l' n : Nat} (h : Ob s c l n) (hd : (c * s).co n ≠ 0) (h' : Ob s c' l' (n + 1)) : n + 1 ≤ l + l' := by
  apply Classical.byContradiction
  intro hn
  have e1 : (c' * (c * s)).co n = (c * s).co n := by
    rw [Ser.mul_co_low fun i h1 h2 => ?_, h'.one, Int.one_mul, Ser.ok]
    rcases Nat.lt_or_ge l' i with h3 | h3
    · exact .inl (h'.low i h3)
    · exact .inr (h.obe _ (by omega) (by omega))
  have e2 : (c * (c' * s)).co n = 0 := by
    rw [Ser.mul_co, cv, sm_zero fun i hi => ?_, Int.zero_emod]
    rcases Nat.lt_or_ge l i with h3 | h3
    · rw [h.low i h3, Int.zero_mul]
    · rw [h'.obe _ (by omega) (by omega), Int.mul_zero]
  rw [Ser.mul_left_comm, e1] at e2
  exact hd e2
structure Ma (s c b : Ser p) (l n nb : Nat) (d : Int) : Prop where
  ob : Ob s c l n
  least : ∀ c' l', Ob s c' l' n → l ≤ l'
  bef : l = 0 ∨ (nb < n ∧ ∃ lb, Ob s b lb nb ∧ l + lb = nb + 1 ∧ (b * s).co nb = d)
theorem Ma.start (s b : Ser p) (hp : 2 ≤ p) (nb : Nat) (d : Int) : Ma s 1 b 0 0 nb d :=
  ⟨⟨fun k hk => by rw [← Ser.C_one, Ser.C_co, if_neg (by omega)], by rw [← Ser.C_one, Ser.C_co, if_pos rfl]; exact mod_small (by omega) (by omega), fun i h1 h2 => by omega⟩, fun _ _ _ => Nat.zero_le _, .inl rfl⟩
def Ser.put (c b : Ser p) (q : Int) (m : Nat) : Ser p := c - Ser.C p q * Ser.up m b
theorem Ma.grow {s c b c' : Ser p} {l n nb : Nat} {d : Int} (h : Ma s c b l n nb d) (hd : (c * s).co n ≠ 0) (hl : 2 * l ≤ n) (hc : Ob s c' (n + 1 - l) (n + 1)) : Ma s c' c (n + 1 - l) (n + 1) n ((c * s).co n) :=
  ⟨hc, fun c'' l'' h' => by have := h.ob.bound hd h'; omega, .inr ⟨by omega, l, h.ob, by omega, rfl⟩⟩
theorem Ma.turn {s c b c' : Ser p} {l n nb : Nat} {d : Int} (h : Ma s c b l n nb d) (hc : Ob s c' l (n + 1)) : Ma s c' b l (n + 1) nb d :=
  ⟨hc, fun c'' l'' h' => h.least c'' l'' (h'.less (by omega)), h.bef.imp id fun ⟨h1, h2⟩ => ⟨by omega, h2⟩⟩
theorem Ma.len {s c b : Ser p} {l n nb : Nat} {d : Int} (h : Ma s c b l n nb d) (hp : 2 ≤ p) : l ≤ n :=
  h.least 1 n ⟨fun k hk => by rw [← Ser.C_one, Ser.C_co, if_neg (by omega)], by rw [← Ser.C_one, Ser.C_co, if_pos rfl]; exact mod_small (by omega) (by omega), fun i h1 h2 => by omega⟩
end Go.Proofs.YthomeenmcajmdaaGreatDoor
namespace Go.Proofs.YthomeenmcajmdaaGreatDoor
variable {p : Int} {n : Nat} {A : Nat → RowF}
def mapF (n : Nat) (A : Nat → RowF) (v : RowF) : RowF := fun i => sm n fun k => A i k * v k
def itF (n : Nat) (A : Nat → RowF) : Nat → RowF → RowF
  | 0, v => v
  | k + 1, v => mapF n A (itF n A k v)
def doF (n : Nat) (A : Nat → RowF) (d : Nat) (f : Nat → Int) (v : RowF) : RowF := fun i => sm d fun k => f k * itF n A k v i
def Eqv (p : Int) (n : Nat) (u v : RowF) : Prop := ∀ i, i < n → u i % p = v i % p
theorem Eqv.refl (u : RowF) : Eqv p n u u := fun _ _ => rfl
theorem Eqv.symm {u v : RowF} (h : Eqv p n u v) : Eqv p n v u := fun i hi => (h i hi).symm
theorem Eqv.trans {u v w : RowF} (h : Eqv p n u v) (k : Eqv p n v w) : Eqv p n u w := fun i hi => (h i hi).trans (k i hi)
theorem itF_add (a b : Nat) (v : RowF) : itF n A (a + b) v = itF n A a (itF n A b v) := by
  induction a with
  | zero => rw [Nat.zero_add]; rfl
  | succ a ih => rw [Nat.add_right_comm]; show mapF n A _ = mapF n A _; rw [ih]
theorem map_sum (m : Nat) (c : Nat → Int) (w : Nat → RowF) : mapF n A (fun i => sm m fun j => c j * w j i) = fun i => sm m fun j => c j * mapF n A (w j) i := by
  funext i
  unfold mapF
  rw [sm_congr (g := fun k => sm m fun j => c j * (A i k * w j k)) fun k _ => by rw [← sm_mul]; exact sm_congr fun j _ => by grind, sm_comm]
  exact sm_congr fun j _ => sm_mul _ _ _
theorem it_sum (k m : Nat) (c : Nat → Int) (w : Nat → RowF) : itF n A k (fun i => sm m fun j => c j * w j i) = fun i => sm m fun j => c j * itF n A k (w j) i := by
  induction k with
  | zero => rfl
  | succ k ih => show mapF n A _ = _; rw [ih, map_sum]; rfl
theorem do_sum (d : Nat) (f : Nat → Int) (m : Nat) (c : Nat → Int) (w : Nat → RowF) : doF n A d f (fun i => sm m fun j => c j * w j i) = fun i => sm m fun j => c j * doF n A d f (w j) i := by
  funext i
  unfold doF
  rw [sm_congr (g := fun k => sm m fun j => c j * (f k * itF n A k (w j) i)) fun k _ => by rw [it_sum, ← sm_mul]; exact sm_congr fun j _ => by grind, sm_comm]
  exact sm_congr fun j _ => sm_mul _ _ _
theorem do_it (d : Nat) (f : Nat → Int) (k : Nat) (v : RowF) : doF n A d f (itF n A k v) = itF n A k (doF n A d f v) := by
  unfold doF
  rw [it_sum]
  funext i
  exact sm_congr fun j _ => by rw [← itF_add, Nat.add_comm, itF_add]
theorem map_mod {u v : RowF} (h : Eqv p n u v) (i : Nat) : mapF n A u i % p = mapF n A v i % p := sm_mod fun k hk => by rw [← mm_r, h k hk, mm_r]
theorem it_mod {u v : RowF} (h : Eqv p n u v) : ∀ k, Eqv p n (itF n A k u) (itF n A k v)
  | 0 => h
  | k + 1 => fun i _ => map_mod (it_mod h k) i
theorem do_mod {u v : RowF} (h : Eqv p n u v) {d : Nat} {f g : Nat → Int} (hf : ∀ k, k < d → f k % p = g k % p) : Eqv p n (doF n A d f u) (doF n A d g v) := fun i hi =>
  sm_mod fun k hk => by rw [Int.mul_emod, hf k hk, it_mod h k i hi, ← Int.mul_emod]
theorem it_zero {u : RowF} (h : ∀ i, i < n → u i % p = 0) (k : Nat) : ∀ i, i < n → itF n A k u i % p = 0 := by
  induction k with
  | zero => exact h
  | succ k ih => exact fun i _ => sm_mz fun j hj => mz_mul (ih j hj) _
theorem do_zero {u : RowF} (h : ∀ i, i < n → u i % p = 0) (d : Nat) (f : Nat → Int) : ∀ i, i < n → doF n A d f u i % p = 0 := fun i hi =>
  sm_mz fun k _ => mz_mul (it_zero h k i hi) _
theorem sm_cut {f : Nat → Int} {d e : Nat} (hd : d ≤ e) (h : ∀ k, d ≤ k → f k = 0) : sm e f = sm d f := by
  rw [sm_piece (n := e) 0 d (by omega) (fun i hi => absurd hi (Nat.not_lt_zero _)) fun i h1 _ => h i (by omega)]
  exact sm_congr fun i _ => by rw [Nat.zero_add]
theorem do_cut {f : Ser p} {d e : Nat} (hf : f.low d) (hd : d ≤ e) (v : RowF) : doF n A e f.co v = doF n A d f.co v := by
  funext i
  exact sm_cut hd fun k hk => by rw [hf k hk, Int.zero_mul]
theorem do_same {f : Ser p} {d e : Nat} (hf : f.low d) (hg : f.low e) (v : RowF) : doF n A e f.co v = doF n A d f.co v := by
  rcases Nat.le_total d e with h | h
  · exact do_cut hf h v
  · exact (do_cut hg h v).symm
theorem sm_conv {f g F : Nat → Int} {a b : Nat} (hf : ∀ i, a ≤ i → f i = 0) (hg : ∀ j, b ≤ j → g j = 0) : (sm (a + b) fun k => cv f g k * F k) = sm a fun i => sm b fun j => f i * g j * F (i + j) := by
  cases h : a + b with
  | zero =>
    obtain ⟨rfl, rfl⟩ : a = 0 ∧ b = 0 := by omega
    rfl
  | succ N =>
    have e1 : (sm (N + 1) fun k => cv f g k * F k) = sm (N + 1) fun k => sm (k + 1) fun i => f i * g (k - i) * F k := sm_congr fun k _ => by unfold cv; rw [sm_mul_r]
    rw [e1, sm_tri (fun k i => f i * g (k - i) * F k) N]
    have e2 : (sm (N + 1) fun j => sm (N + 1 - j) fun k => f j * g (j + k - j) * F (j + k)) = sm (N + 1) fun i => sm b fun j => f i * g j * F (i + j) := sm_congr fun i hi => by
      rcases Nat.lt_or_ge i a with c | c
      · rw [sm_cut (d := b) (by omega) fun k hk => by rw [hg _ (by omega)]; simp]
        exact sm_congr fun j _ => by rw [show i + j - i = j by omega]
      · rw [sm_zero fun k _ => by rw [hf i c]; simp, sm_zero fun k _ => by rw [hf i c]; simp]
    rw [e2]
    exact sm_cut (by omega) fun i hi => sm_zero fun j _ => by rw [hf i hi]; simp
theorem do_mul {f g : Ser p} {a b : Nat} (hf : f.low a) (hg : g.low b) (v : RowF) : Eqv p n (doF n A (a + b) (f * g).co v) (doF n A a f.co (doF n A b g.co v)) := fun i hi => by
  have e1 : doF n A (a + b) (f * g).co v i % p = (sm (a + b) fun k => cv f.co g.co k * itF n A k v i) % p := sm_mod fun k _ => by rw [Ser.mul_co, mm_l]
  rw [e1, sm_conv hf hg]
  refine congrArg (· % p) (sm_congr fun k _ => ?_)
  show _ = f.co k * itF n A k (fun i => sm b fun j => g.co j * itF n A j v i) i
  rw [it_sum, ← sm_mul]
  exact sm_congr fun j _ => by rw [itF_add, Int.mul_assoc]
theorem sm_join (a : Nat) (f : Nat → Int) : ∀ b, sm (a + b) f = sm a f + sm b fun j => f (a + j)
  | 0 => by show sm a f = sm a f + 0; rw [Int.add_zero]
  | b + 1 => by show sm (a + b) f + f (a + b) = sm a f + (sm b (fun j => f (a + j)) + f (a + b)); rw [sm_join a f b]; omega
def Kil (p : Int) (n : Nat) (A : Nat → RowF) (f : Ser p) (v : RowF) : Prop := ∃ d, f.low d ∧ ∀ i, i < n → doF n A d f.co v i % p = 0
theorem Kil.at_ {f : Ser p} {v : RowF} (h : Kil p n A f v) {d : Nat} (hd : f.low d) : ∀ i, i < n → doF n A d f.co v i % p = 0 := by
  obtain ⟨e, he, h⟩ := h
  rw [do_same he hd]; exact h
theorem Kil.poly {f : Ser p} {v : RowF} (h : Kil p n A f v) : f.poly := ⟨h.choose, h.choose_spec.1⟩
theorem Kil.mul {f q : Ser p} {v : RowF} (h : Kil p n A f v) (hq : q.poly) : Kil p n A (q * f) v := by
  obtain ⟨a, ha⟩ := hq
  obtain ⟨b, hb, h⟩ := h
  refine ⟨a + b, (ha.mul hb).mono (by omega), fun i hi => ?_⟩
  rw [do_mul ha hb v i hi]
  exact do_zero h a _ i hi
theorem Kil.mul' {f q : Ser p} {v : RowF} (h : Kil p n A f v) (hq : q.poly) : Kil p n A (f * q) v := by rw [Ser.mul_comm]; exact h.mul hq
theorem Kil.zero (v : RowF) : Kil p n A 0 v := ⟨0, Ser.low_zero 0, fun _ _ => rfl⟩
theorem Kil.add {f g : Ser p} {v : RowF} (h : Kil p n A f v) (k : Kil p n A g v) : Kil p n A (f + g) v := by
  obtain ⟨a, ha⟩ := h.poly
  obtain ⟨b, hb⟩ := k.poly
  have h1 := h.at_ (ha.mono (show a ≤ a + b by omega))
  have h2 := k.at_ (hb.mono (show b ≤ a + b by omega))
  refine ⟨a + b, (ha.mono (by omega)).add (hb.mono (by omega)), fun i hi => ?_⟩
  have e : doF n A (a + b) (f + g).co v i % p = (doF n A (a + b) f.co v i + doF n A (a + b) g.co v i) % p := by
    unfold doF
    rw [← sm_add]
    exact sm_mod fun k _ => by rw [Ser.add_co, mm_l, Int.add_mul]
  rw [e]
  exact mz_add (h1 i hi) (h2 i hi)
theorem Kil.sub {f g : Ser p} {v : RowF} (h : Kil p n A f v) (k : Kil p n A g v) : Kil p n A (f - g) v := by
  obtain ⟨a, ha⟩ := h.poly
  obtain ⟨b, hb⟩ := k.poly
  have h1 := h.at_ (ha.mono (show a ≤ a + b by omega))
  have h2 := k.at_ (hb.mono (show b ≤ a + b by omega))
  refine ⟨a + b, (ha.mono (by omega)).sub (hb.mono (by omega)), fun i hi => ?_⟩
  have e : doF n A (a + b) (f - g).co v i % p = (doF n A (a + b) f.co v i + -doF n A (a + b) g.co v i) % p := by
    unfold doF
    rw [← sm_neg, ← sm_add]
    exact sm_mod fun k _ => by rw [Ser.sub_co, mm_l, Int.sub_mul]; exact congrArg (· % p) (by omega)
  rw [e]
  exact mz_add (h1 i hi) (mz_neg (h2 i hi))
theorem Kil.it {f : Ser p} {v : RowF} (h : Kil p n A f v) (k : Nat) : Kil p n A f (itF n A k v) := by
  obtain ⟨d, hd, h⟩ := h
  refine ⟨d, hd, fun i hi => ?_⟩
  rw [do_it]
  exact it_zero h k i hi
theorem Kil.congr {f : Ser p} {u v : RowF} (h : Kil p n A f u) (e : Eqv p n v u) : Kil p n A f v := by
  obtain ⟨d, hd, h⟩ := h
  exact ⟨d, hd, fun i hi => by rw [do_mod e (fun _ _ => rfl) i hi]; exact h i hi⟩
theorem Kil.sum {f : Ser p} (hf : f.poly) {m : Nat} (c : Nat → Int) {w : Nat → RowF} (h : ∀ j, j < m → Kil p n A f (w j)) : Kil p n A f fun i => sm m fun j => c j * w j i := by
  obtain ⟨d, hd⟩ := hf
  refine ⟨d, hd, fun i hi => ?_⟩
  rw [do_sum]
  exact sm_mz fun j hj => mz_mul ((h j hj).at_ hd i hi) _
theorem Kil.comb {f : Ser p} (hf : f.poly) {m : Nat} {w : Nat → RowF} {v : RowF} (hv : Comb p n m w v) (h : ∀ j, j < m → Kil p n A f (w j)) : Kil p n A f v := by
  obtain ⟨c, hc⟩ := hv
  exact (Kil.sum hf c h).congr hc
def uniF (i : Nat) : RowF := fun k => if k = i then 1 else 0
theorem comb_uni (v : RowF) : Comb p n n uniF v := ⟨v, fun j hj => by
  rw [sm_congr (g := fun k => if k = j then v k else 0) fun k _ => by
    unfold uniF
    by_cases e : k = j
    · rw [if_pos e, if_pos e.symm, Int.mul_one]
    · rw [if_neg e, if_neg (fun h => e h.symm), Int.mul_zero], sm_single v hj]⟩
theorem Kil.all {f : Ser p} (hf : f.poly) (h : ∀ i, i < n → Kil p n A f (uniF i)) (v : RowF) : Kil p n A f v := Kil.comb hf (comb_uni v) h
theorem Ind.snoc (hp : HasInv p) {r : Nat} {u : Nat → RowF} (h : Ind p n r u) (hn : ¬ Comb p n r u (u r)) : Ind p n (r + 1) u := by
  intro x hx
  by_cases h0 : x r % p = 0
  · have h1 := h x fun j hj => by
      have := hx j hj
      rw [sm, Int.add_emod, mz_mul' h0, Int.add_zero, Int.emod_emod] at this
      exact this
    intro k hk
    rcases Nat.lt_or_ge k r with c | c
    · exact h1 k c
    · obtain rfl : k = r := by omega
      exact h0
  · exfalso
    obtain ⟨b, hb⟩ := hp.2 _ h0
    refine hn ⟨fun k => -b * x k, fun j hj => ?_⟩
    have h2 := hx j hj
    rw [sm] at h2
    rw [sm_congr (g := fun k => -b * (x k * u k j)) fun k _ => by grind, sm_mul, mz_sub]
    rw [show u r j - -b * (sm r fun k => x k * u k j) = b * ((sm r fun k => x k * u k j) + x r * u r j) + -((x r * b - 1) * u r j) by grind]
    exact mz_add (mz_mul h2 _) (mz_neg (mz_mul' (mz_sub.1 (by rw [hb, hp.one])) _))
theorem Ind.bound (hp : HasInv p) {r : Nat} {u : Nat → RowF} (h : Ind p n r u) : r ≤ n := h.le hp fun k _ => comb_uni (u k)
theorem Ind.grow (hp : HasInv p) {u : Nat → RowF} : ∀ m r, n - r ≤ m → Ind p n r u → ∃ s, r ≤ s ∧ s ≤ n ∧ Ind p n s u ∧ Comb p n s u (u s) := by
  intro m
  induction m with
  | zero =>
    intro r hr h
    have hb := h.bound hp
    refine ⟨r, Nat.le_refl _, hb, h, Classical.byContradiction fun hn => ?_⟩
    have := (h.snoc hp hn).bound hp
    omega
  | succ m ih =>
    intro r hr h
    by_cases hc : Comb p n r u (u r)
    · exact ⟨r, Nat.le_refl _, h.bound hp, h, hc⟩
    · have h1 := h.snoc hp hc
      obtain ⟨s, h2, h3⟩ := ih (r + 1) (by omega) h1
      exact ⟨s, by omega, h3⟩
theorem Ind.nil (u : Nat → RowF) : Ind p n 0 u := fun _ _ _ hk => absurd hk (Nat.not_lt_zero _)
def topS (p : Int) (s : Nat) (c : Nat → Int) : Ser p := .of p fun k => if k = s then 1 else if k < s then - c k else 0
theorem topS_low (s : Nat) (c : Nat → Int) : (topS p s c).low (s + 1) := fun k hk => by
  show (if k = s then 1 else if k < s then - c k else 0) % p = 0
  rw [if_neg (by omega), if_neg (by omega)]; simp
theorem topS_top (hp : 2 ≤ p) (s : Nat) (c : Nat → Int) : (topS p s c).co s = 1 := by
  show (if s = s then 1 else if s < s then - c s else 0) % p = 1
  rw [if_pos rfl]; exact mod_small (by omega) (by omega)
theorem topS_do (s : Nat) (c : Nat → Int) (v : RowF) : Eqv p n (doF n A (s + 1) (topS p s c).co v) fun i => itF n A s v i - sm s fun k => c k * itF n A k v i := fun i _ => by
  have e : doF n A (s + 1) (topS p s c).co v i % p = (sm (s + 1) fun k => (if k = s then 1 else if k < s then - c k else 0) * itF n A k v i) % p := sm_mod fun _ _ => by
    show (_ % p) * _ % p = _
    rw [mm_l]
  rw [e, sm, if_pos rfl, sm_congr (g := fun k => -(c k * itF n A k v i)) fun k hk => by rw [if_neg (by omega), if_pos hk]; grind, sm_neg]
  show _ = (itF n A s v i - sm s fun k => c k * itF n A k v i) % p
  exact congrArg (· % p) (by omega)
theorem topS_kil {s : Nat} {v : RowF} {c : Nat → Int} (h : ∀ i, i < n → itF n A s v i % p = (sm s fun k => c k * itF n A k v i) % p) : Kil p n A (topS p s c) v :=
  ⟨s + 1, topS_low s c, fun i hi => by rw [topS_do s c v i hi]; exact mz_sub.1 (h i hi)⟩
theorem Ind.kil {s : Nat} {v : RowF} (h : Ind p n s fun k => itF n A k v) {f : Ser p} (hf : f.low s) (hk : Kil p n A f v) : f = 0 := by
  have h1 := h f.co (hk.at_ hf)
  refine Ser.ext_ fun k => ?_
  rw [Ser.zero_co]
  rcases Nat.lt_or_ge k s with c | c
  · rw [← f.ok k]; exact h1 k c
  · exact hf k c
theorem Comb.more {r s : Nat} {u u' : Nat → RowF} {v : RowF} (h : Comb p n r u v) (hr : r ≤ s) (e : ∀ k, k < r → u' k = u k) : Comb p n s u' v :=
  h.trans fun k hk => by rw [← e k hk]; exact Comb.one u' (by omega)
theorem Comb.map {r : Nat} {u : Nat → RowF} {v : RowF} (h : Comb p n r u v) (k : ∀ i, i < r → Comb p n r u (mapF n A (u i))) : Comb p n r u (mapF n A v) := by
  obtain ⟨c, hc⟩ := h
  have e : Eqv p n (mapF n A v) (fun i => sm r fun j => c j * mapF n A (u j) i) := fun i _ => by
    rw [map_mod hc i]
    exact congrArg (· % p) (congrFun (map_sum r c u) i)
  exact (Comb.sum k c).congr e
theorem min_step (hp : HasInv p) : ∀ m r (B : Nat → RowF) (h : Ser p), n - r ≤ m → Ind p n r B → (∀ k, k < r → Comb p n r B (mapF n A (B k))) → h.low (r + 1) → h.co r = 1 → (∀ k, k < r → Kil p n A h (B k)) →
    ∃ (s : Nat) (g : Ser p), s ≤ n ∧ g.low (s + 1) ∧ g.co s = 1 ∧ ∀ v, Kil p n A g v := by
  intro m
  induction m with
  | zero =>
    intro r B h hr hB hinv hl h1 hk
    refine ⟨r, h, hB.bound hp, hl, h1, fun v => Kil.comb ⟨_, hl⟩ (w := B) (m := r) ?_ hk⟩
    refine Classical.byContradiction fun hn => ?_
    have h2 : Ind p n (r + 1) fun k => if k = r then v else B k := by
      refine Ind.snoc hp (fun x hx => hB x fun j hj => ?_) fun hc => hn ?_
      · rw [← hx j hj]
        exact congrArg (· % p) (sm_congr fun k hk => by rw [if_neg (by omega)])
      · rw [if_pos rfl] at hc
        exact hc.more (Nat.le_refl _) fun k hk => by rw [if_neg (by omega)]
    have := h2.bound hp
    omega
  | succ m ih =>
    intro r B h hr hB hinv hl h1 hk
    by_cases hall : ∀ v, Comb p n r B v
    · exact ⟨r, h, hB.bound hp, hl, h1, fun v => Kil.comb ⟨_, hl⟩ (hall v) hk⟩
    · obtain ⟨e, he⟩ := Classical.not_forall.1 hall
      let B' : Nat → RowF := fun k => if k < r then B k else itF n A (k - r) e
      have b1 : ∀ k, k < r → B' k = B k := fun k hk => if_pos hk
      have b2 : ∀ j, B' (r + j) = itF n A j e := fun j => by
        show (if r + j < r then _ else itF n A (r + j - r) e) = _
        rw [if_neg (by omega), Nat.add_sub_cancel_left]
      have hB' : Ind p n r B' := fun x hx => hB x fun j hj => by
        rw [← hx j hj]
        exact congrArg (· % p) (sm_congr fun k hk => by rw [b1 k hk])
      have hB1 : Ind p n (r + 1) B' := hB'.snoc hp fun hc => he (by
        rw [show B' r = e from b2 0] at hc
        exact hc.more (Nat.le_refl _) fun k hk => (b1 k hk).symm)
      obtain ⟨t, t1, t2, t3, c, t4⟩ := Ind.grow hp n (r + 1) (by omega) hB1
      obtain ⟨s, rfl⟩ : ∃ s, t = r + s := ⟨t - r, by omega⟩
      let c' : Nat → Int := fun j => c (r + j)
      have hg : Eqv p n (doF n A (s + 1) (topS p s c').co e) fun i => sm r fun k => c k * B k i := fun i hi => by
        rw [topS_do s c' e i hi]
        have h4 := t4 i hi
        rw [b2 s] at h4
        have h5 : (sm (r + s) fun k => c k * B' k i) = (sm r fun k => c k * B k i) + sm s fun j => c (r + j) * itF n A j e i := by
          rw [sm_join r _ s, sm_congr (n := r) (g := fun k => c k * B k i) fun k hk => by rw [b1 k hk], sm_congr (n := s) (g := fun j => c (r + j) * itF n A j e i) fun j _ => by rw [b2 j]]
        rw [h5] at h4
        rw [Int.sub_emod, h4, ← Int.sub_emod]
        show ((sm r fun k => c k * B k i) + (sm s fun j => c (r + j) * itF n A j e i) - sm s fun k => c (r + k) * itF n A k e i) % p = (sm r fun k => c k * B k i) % p
        exact congrArg (· % p) (by omega)
      have hke : Kil p n A (h * topS p s c') e := ⟨r + 1 + (s + 1), (hl.mul (topS_low s c')).mono (by omega), fun i hi => by
        rw [do_mul hl (topS_low s c') e i hi, do_mod hg (fun _ _ => rfl) i hi]
        exact (Kil.sum ⟨_, hl⟩ c hk).at_ hl i hi⟩
      have htop := Ser.mul_top hl (topS_low (p := p) s c')
      refine ih (r + s) B' (h * topS p s c') (by omega) t3 (fun k hk' => ?_) htop.2 ?_ fun k hk' => ?_
      · rcases Nat.lt_or_ge k r with q | q
        · rw [b1 k q]
          exact (hinv k q).more (by omega) fun k hk => b1 k hk
        · obtain ⟨j, rfl⟩ : ∃ j, k = r + j := ⟨k - r, by omega⟩
          rw [b2 j]
          show Comb p n (r + s) B' (itF n A (j + 1) e)
          rw [← b2 (j + 1)]
          rcases Nat.lt_or_ge (j + 1) s with q' | q'
          · exact Comb.one B' (by omega)
          · rw [show j + 1 = s by omega]
            exact ⟨c, t4⟩
      · rw [htop.1, h1, topS_top hp.1, Int.mul_one]; exact hp.one
      · rcases Nat.lt_or_ge k r with q | q
        · rw [b1 k q]
          exact (hk k q).mul' ⟨_, topS_low s c'⟩
        · obtain ⟨j, rfl⟩ : ∃ j, k = r + j := ⟨k - r, by omega⟩
          rw [b2 j]
          exact hke.it j
theorem min_exists (hp : HasInv p) (A : Nat → RowF) : ∃ (s : Nat) (g : Ser p), s ≤ n ∧ g.low (s + 1) ∧ g.co s = 1 ∧ ∀ v, Kil p n A g v :=
  min_step hp n 0 (fun _ _ => 0) 1 (by omega) (Ind.nil _) (fun _ hk => absurd hk (Nat.not_lt_zero _)) (Ser.low_C 1) (by
    show (Ser.C p 1).co 0 = 1
    rw [Ser.C_co, if_pos rfl, hp.one]) fun _ hk => absurd hk (Nat.not_lt_zero _)
end Go.Proofs.YthomeenmcajmdaaGreatDoor
namespace Go.Proofs.YthomeenmcajmdaaGreatDoor
open Go.RowKit Go.Maps
theorem Ext.grownBy {w w' : World} (h : Ext w w') (row : Option Nat) : w.grownBy w' row := ⟨h.os, h.tape, h.output, h.size, fun k hk _ => h.block k hk⟩
theorem Ints.grown {k : IntKind} {w w' : World} {v : Value} {xs : List Int} {row : Option Nat} (h : Ints k w v xs) (hg : w.grownBy w' row) (hne : ∀ b, v.ownBlock = some b → row ≠ some b) : Ints k w' v xs := by
  obtain ⟨a, cap, rfl, h1, h2, h3⟩ := h
  refine ⟨a, cap, rfl, h1, h2, fun hp => ?_⟩
  obtain ⟨b, off, rfl, hb, hc⟩ := h3 hp
  refine ⟨b, off, rfl, Nat.lt_of_lt_of_le hb hg.size, fun j hj => ?_⟩
  rw [World.cell?_of_block (hg.block b hb fun e => hne b rfl e.symm)]
  exact hc j hj
def Ap (v u : Value) : Prop := v.ownBlock = none ∨ v.ownBlock ≠ u.ownBlock
theorem Ap.symm {v u : Value} (h : Ap v u) : Ap u v := by
  rcases h with h | h
  · rcases hu : u.ownBlock with _ | k
    · exact .inl hu
    · exact .inr (by rw [h, hu]; simp)
  · exact .inr fun e => h e.symm
theorem Ap.old {w w' : World} {b b' : Nat} {e e' : TypeId} {s s' n n' : Nat} {v u : Value} {xs ys : List Value} (h : w.ownsRow b e s v n xs) (h' : w'.ownsRow b' e' s' u n' ys) (hb : w.heap.size ≤ b') : Ap v u := by
  rcases hv : v.ownBlock with _ | k
  · exact .inl hv
  · refine .inr fun e => ?_
    rw [hv] at e
    have h1 := (h.lt k hv).2
    have h2 := (h'.lt k e.symm).1
    omega
theorem Ap.grown {w : World} {b : Nat} {e : TypeId} {s n : Nat} {v v' u : Value} {ys : List Value} (h : Ap u v) (hu : w.ownsRow b e s u n ys) (hat : v'.ownBlock = v.ownBlock ∨ v'.ownBlock = some w.heap.size) : Ap u v' := by
  rcases h with h | h
  · exact .inl h
  · rcases hv : u.ownBlock with _ | k
    · exact .inl hv
    · refine .inr fun e => ?_
      rw [hv] at e h
      rcases hat with hat | hat
      · rw [hat] at e; exact h e
      · rw [hat] at e
        have := (hu.lt k hv).2
        injection e with e
        omega
theorem own_put {w : World} {base : Nat} {e ty : TypeId} {g n : Nat} {v : Value} {xs : List Value} {cs : Array Value} (h : w.ownsRow base e 1 v n xs) (hB : Blk w g ty cs) (hty : e ≠ ty) (i : Nat) (u : Value) : (w.setCell ⟨g, i, none⟩ u).ownsRow base e 1 v n xs :=
  h.kept (setCell_grown _ _ _) (ownsRow_blk h hB hty)
theorem map_set_int (l : List Int) (j : Nat) (x : Int) : (l.map (Value.int .u64)).set j (.int .u64 x) = (l.set j x).map (Value.int .u64) := by rw [List.map_set]
set_option maxRecDepth 100000 in
set_option maxHeartbeats 1000000 in
theorem cmLessen (p x : Int) (n base g cap : Nat) (xs us : List Int) (u : Value) (w : World) (hp : rightB p = true) (hx : 0 ≤ x ∧ x < p) (hn : 1 ≤ n) (hn2 : n ≤ 64)
    (hown : w.ownsRow base 22 1 (.slice (some ⟨g, 0, none⟩) n cap) n (xs.map (Value.int .u64))) (hxs : Rng p xs) (hu : Ints .u64 w u us) (hul : us.length = n) (hus : Rng p us) (hne : ∀ k, u.ownBlock = some k → g ≠ k) :
    Calls Tryz.prog 104 #[.int .u64 p, .slice (some ⟨g, 0, none⟩) n cap, .int .u64 x, u] w fun e w' => e = .returned (.tuple #[]) ∧
      w'.ownsRow base 22 1 (.slice (some ⟨g, 0, none⟩) n cap) n ((tab n fun j => (xs.getD j 0 - x * us.getD j 0 % p) % p).map (Value.int .u64)) ∧ w.grownBy w' (some g) := by
  have hp2 := rightB_true hp
  have HP := hid hp
  have Hxs := hid hxs; have Hus := hid hus
  have hxl : xs.length = n := by have := hown.1; simpa using this
  obtain ⟨F, hF⟩ : ∃ F : Nat → Int, (fun j => (xs.getD j 0 - x * us.getD j 0 % p) % p) = F := ⟨_, rfl⟩
  have HF := hid (fun j => (congrFun hF j : (xs.getD j 0 - x * us.getD j 0 % p) % p = F j))
  rw [hF]
  have Hown := hid hown; have Hxl := hid hxl
  obtain ⟨a, cu, rfl, k1, k2, k3⟩ := hu
  rw [hul] at k1 k3 ⊢
  obtain ⟨b, off, rfl, hb, hc⟩ := k3 (by omega)
  have Hc := hid hc
  have hgb : g ≠ b := hne b rfl
  clear hF k3 hc hown hxl hne hul hxs hus hp
  go_enter Tryz.func104, Tryz.ntmps104
  go_wp2_with fail
  go_loopw [14] (fun iv wr => ∃ (j : Nat) (l : List Int), iv = .int .i64 j ∧ j ≤ n ∧ Hid (l.length = n) ∧ Hid (wr.ownsRow base 22 1 (.slice (some ⟨g, 0, none⟩) n cap) n (l.map (Value.int .u64))) ∧ Hid (∀ t, t < n → l.getD t 0 = if t < j then F t else xs.getD t 0) ∧ Hid (w.grownBy wr (some g))) (fun iv _ => n - (intOf iv).toNat)
  case atStart => exact ⟨0, xs, rfl, Nat.zero_le _, Hxl, Hown, hid (fun t ht => by rw [if_neg (by omega)]), hid ((Ext.refl w).grownBy _)⟩
  case round =>
    obtain ⟨j, l, rfl, hj, hl, ho, hget, hgr⟩ := hrel
    by_cases hlt : j < n
    · have gu := (World.cell?_of_block (a := ⟨b, off + j, none⟩) (hgr.out.block b hb (fun e => hgb (by injection e with e; exact e.symm)))).trans (Hc.out j hlt)
      have hlj := hget.out j hlt
      rw [if_neg (by omega)] at hlj
      have rx := Hxs.out.getD hp2.1 j
      have ru := Hus.out.getD hp2.1 j
      have hFj := HF.out j
      obtain ⟨y, ey⟩ : ∃ y, us.getD j 0 = y := ⟨_, rfl⟩
      obtain ⟨z, ez⟩ : ∃ z, xs.getD j 0 = z := ⟨_, rfl⟩
      rw [ey] at gu ru hFj; rw [ez] at hlj rx hFj
      obtain ⟨q, eq, q0, q1⟩ := name_mod (p := p) (x * y) hp2.1
      rw [eq] at hFj
      have hFr := mod_range (z - q) hp2.1
      rw [hFj] at hFr
      obtain ⟨t, et⟩ : ∃ t, F j = t := ⟨_, rfl⟩
      rw [et] at hFj hFr
      have Eq := hid eq; have Et := hid et; have HFj := hid hFj
      have gv := hid fun (W : World) (hW : Ext wr W) => (show W.cell? ⟨g, j, none⟩ = some (.int .u64 z) by
        rw [(ownsRow_ext ho.out hW).cellAt j (by omega), List.getElem?_map, List.getElem?_eq_getElem (show j < l.length by rw [hl.out]; exact hlt)]
        simp only [List.getD, List.getElem?_eq_getElem (show j < l.length by rw [hl.out]; exact hlt), Option.getD_some] at hlj
        rw [hlj]; rfl)
      have fv := hid fun (W : World) (hW : Ext wr W) => (ownsRow_ext ho.out hW).frozenAt j
      have hst := hid fun (W : World) (hW : Ext wr W) => (ownsRow_ext ho.out hW).stored j (.int .u64 t)
      clear ey ez eq et hFj hlj
      go_wp2_with (first
        | (go_at_call 103; refine (mul_as p x y q _ HP.out hx.1 hx.2 ru.1 ru.2 Eq.out).mono ?_; rintro _ w1 ⟨rfl, x1⟩; have g1 := gv.out w1 x1)
        | (go_at_call 113; refine (sub_as p z q t _ HP.out rx.1 rx.2 q0 q1 HFj.out).mono ?_; rintro _ w2 ⟨rfl, x2⟩; have x3 := x1.trans x2; have f2 := fv.out w2 x3; have g2 := gv.out w2 x3))
      have hs := hid (hst.out w2 x3)
      go_roundw
      case rel =>
        refine ⟨j + 1, l.set j t, by go_num, by omega, hid (by rw [List.length_set]; exact hl.out), hid (by rw [← map_set_int]; exact hs.out.1), hid (fun i hi => ?_), hid ((hgr.out.trans (x3.grownBy _)).trans hs.out.2)⟩
        rw [set_get l j i t (by rw [hl.out]; exact hlt)]
        by_cases e : j = i
        · subst e
          rw [if_pos rfl, if_pos (by omega), Et.out]
        · rw [if_neg e, hget.out i hi]
          by_cases e2 : i < j
          · rw [if_pos e2, if_pos (by omega)]
          · rw [if_neg e2, if_neg (by omega)]
      case measure => simp [intOf]; omega
    · obtain rfl : n = j := by omega
      have e : l = tab n F := tab_of hl.out fun t ht => by rw [hget.out t ht, if_pos ht]
      go_wp2_with fail
      go_end0
      exact ⟨rfl, by rw [← e]; exact ho.out, hgr.out⟩
set_option maxHeartbeats 400000 in
theorem cmNot0 (y : Int) (w : World) : Calls Tryz.prog 106 #[.int .u64 y] w fun e w' => e = .returned (.bool (y != 0)) ∧ w = w' := by
  go_enter Tryz.func106, Tryz.ntmps106
  go_wp2_with fail
  go_ret
  exact ⟨rfl, rfl⟩
def leadV (l : List Int) : Int := if leadE l < l.length then (leadE l : Int) else -1
set_option maxRecDepth 100000 in
set_option maxHeartbeats 1000000 in
theorem cmIndex (v : Value) (xs : List Int) (w : World) (hv : Ints .u64 w v xs) (hx : U64s xs) (hl : xs.length ≤ 1000000) :
    Calls Tryz.prog 105 #[v, .func (.func 106) #[] #[]] w (Ret (.int .i64 (leadV xs)) w) := by
  have C1 := hid fun y W => cmNot0 y W
  obtain ⟨L, hL⟩ : ∃ L, leadV xs = L := ⟨_, rfl⟩
  rw [hL]
  have HL := hid hL
  have Hx := hid hx
  obtain ⟨a, cap, rfl, k1, k2, k3⟩ := hv
  have K3 := hid k3
  obtain ⟨n, en⟩ : ∃ n, xs.length = n := ⟨_, rfl⟩
  have En := hid en
  rw [en] at k1 K3 hl ⊢
  clear k3 hL en hx
  go_enter Tryz.func105, Tryz.ntmps105
  go_wp2_with fail
  go_loopw [8] (fun iv wr => ∃ (j : Nat), iv = .int .i64 j ∧ j ≤ n ∧ Hid (∀ t, t < j → xs.getD t 0 = 0) ∧ Ext w wr) (fun iv _ => n - (intOf iv).toNat)
  case atStart => exact ⟨0, rfl, Nat.zero_le _, hid (fun t ht => absurd ht (Nat.not_lt_zero _)), Ext.refl _⟩
  case round =>
    obtain ⟨j, rfl, hj, hz, hw⟩ := hrel
    by_cases hlt : j < n
    · obtain ⟨b, off, rfl, hb, hc⟩ := K3.out (by omega)
      have g1 := (hw.cells _ _ hb).trans (hc j hlt)
      have ry := Hx.out.get (k := j) (by rw [En.out]; exact hlt)
      obtain ⟨y, ey⟩ : ∃ y, xs.getD j 0 = y := ⟨_, rfl⟩
      rw [ey] at g1 ry
      have Ey := hid ey
      clear ey hc
      by_cases c : y = 0
      · have e0 : ((0 : Int) != 0) = false := by decide
        have C2 := hid (C1.out 0)
        rw [e0] at C2
        subst c
        go_wp2_with (go_at_call 106; refine (C2.out _).mono ?_; rintro _ _ ⟨rfl, rfl⟩)
        go_roundw
        case rel =>
          refine ⟨j + 1, by go_num, by omega, hid (fun t ht => ?_), hw⟩
          by_cases e : t = j
          · rw [e, Ey.out]
          · exact hz.out t (by omega)
        case measure => simp [intOf]; omega
      · have e0 : (y != 0) = true := by simp [c]
        have C2 := hid (C1.out y)
        rw [e0] at C2
        have hLj := hid (show L = (j : Int) by
          have hjl : j < xs.length := by rw [En.out]; exact hlt
          have e1 : leadE xs = j := leadE_eq hjl (by rw [Ey.out]; exact c) hz.out
          rw [← HL.out]; unfold leadV
          rw [e1, if_pos hjl])
        go_wp2_with (go_at_call 106; refine (C2.out _).mono ?_; rintro _ _ ⟨rfl, rfl⟩)
        go_ret
        exact ⟨ret_int hLj.out.symm, hw⟩
    · obtain rfl : n = j := by omega
      have hLj := hid (show L = -1 by
        have e1 : leadE xs = xs.length := leadE_all fun t ht => hz.out t (by rw [← En.out]; exact ht)
        rw [← HL.out]; unfold leadV
        rw [e1, if_neg (Nat.lt_irrefl _)])
      go_wp2_with fail
      go_ret
      exact ⟨ret_int hLj.out.symm, hw⟩
end Go.Proofs.YthomeenmcajmdaaGreatDoor
