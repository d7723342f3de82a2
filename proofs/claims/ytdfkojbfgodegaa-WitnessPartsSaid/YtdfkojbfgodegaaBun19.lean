/- What the texts Pm1, Pm2, Pm3, Mx6 show, in one text. -/
import Derived.Test.YtdfkojbfgodegaaBun10
import Derived.Test.YtdfkojbfgodegaaBun04
import Derived.Test.YtdfkojbfgodegaaBun11
import Derived.Test.YtdfkojbfgodegaaBun07
/- Package perm: sides, orders that are right, One. -/
namespace Go.Proofs.Ytdfkojbfgodegaa
open Go.RowKit Go.Maps

theorem pmSide (n : Int) (w : World) : Calls Try.prog 78 #[.int .i64 n] w fun e w' => e = .returned (.bool (sideB n)) ∧ w = w' := by
  by_cases h : 1 ≤ n
  · by_cases h' : n ≤ 64
    all_goals
      go_enter Try.func78, Try.ntmps78
      go_wp2
      go_ret
      exact ⟨ret_bool (by simp [sideB]; omega), rfl⟩
  · go_enter Try.func78, Try.ntmps78
    go_wp2
    go_ret
    exact ⟨ret_bool (by simp [sideB]; omega), rfl⟩

/-- rows without repetition, of numbers that are all below their number: an order -/
theorem Ord.of_nodup {n : Nat} {p : List Int} (hl : p.length = n) (hr : ∀ j, j < n → 0 ≤ p.getD j 0 ∧ p.getD j 0 < n) (hn : p.Nodup) : Ord n p := by
  have hp := nodup_sub (r := upL n) hn (fun x hx => by
    obtain ⟨j, hj, rfl⟩ := List.getElem_of_mem hx
    have := hr j (by omega)
    rw [List.getD, List.getElem?_eq_getElem hj] at this
    exact upL_mem.2 this) (by rw [upL_len]; omega)
  exact Ord.of_perm hp.symm
theorem mem_take_getD {p : List Int} {k j : Nat} (hj : j < k) (hk : k ≤ p.length) : p.getD j 0 ∈ p.take k := by
  have h : j < (p.take k).length := by rw [List.length_take]; omega
  have e : p.getD j 0 = (p.take k)[j] := by simp [List.getD, show j < p.length by omega]
  rw [e]; exact List.getElem_mem h
theorem nodup_take_succ {p : List Int} {k : Nat} (h : k < p.length) (hn : (p.take k).Nodup) (hx : p.getD k 0 ∉ p.take k) : (p.take (k + 1)).Nodup := by
  rw [take_snoc_getD h, List.nodup_append]
  exact ⟨hn, by simp, fun a ha b hb e => by
    have : b = p.getD k 0 := by simpa using hb
    subst e; subst this; exact hx ha⟩

set_option maxRecDepth 100000 in
set_option maxHeartbeats 1000000 in
theorem qmRight (v : Value) (p : List Int) (w : World) (hv : Ints .i64 w v p) : Calls Try.prog 76 #[v] w (Ret (.bool (ordB p)) w) := by
  have CS := hid fun n W => pmSide n W
  obtain ⟨O, hO⟩ : ∃ O, ordB p = O := ⟨_, rfl⟩
  rw [hO]
  have HO := hid hO
  obtain ⟨a, cap, rfl, k1, k2, k3⟩ := hv
  have K3 := hid k3
  obtain ⟨n, en⟩ : ∃ n, p.length = n := ⟨_, rfl⟩
  have En := hid en
  rw [en] at k1 K3 ⊢
  clear k3 hO en
  by_cases hn : 1 ≤ (n : Int) ∧ (n : Int) ≤ 64
  · have s : sideB n = true := decide_eq_true hn
    have hn2 : 1 ≤ n ∧ n ≤ 64 := by omega
    obtain ⟨b, off, rfl, hb, hc⟩ := K3.out (by omega)
    have Hc := hid hc
    clear hc hn
    go_enter Try.func76, Try.ntmps76
    go_wp2_with (go_at_call 78; refine (CS.out _ _).mono ?_; rintro _ _ ⟨rfl, rfl⟩)
    go_loopw [12] (fun iv wr => ∃ (k : Nat) (cs : Array Value), iv = .int .i64 k ∧ k ≤ n ∧ Hid (Blk wr w.heap.size 107 cs) ∧ Hid (∀ y, y < 64 → cs[y]? = some (.bool (decide ((y : Int) ∈ p.take k)))) ∧ Hid (∀ j, j < k → 0 ≤ p.getD j 0 ∧ p.getD j 0 < n) ∧ Hid ((p.take k).Nodup) ∧ Ext w wr) (fun iv _ => n - (intOf iv).toNat)
    case atStart => exact ⟨0, _, rfl, Nat.zero_le _, hid (Blk.new _ _ _), hid (fun y hy => by show (Array.replicate 64 (Value.bool false))[y]? = _; simp [hy]), hid (fun j hj => absurd hj (Nat.not_lt_zero _)), hid (by simp), (Ext.refl _).alloc _⟩
    case round =>
      obtain ⟨k, cs, rfl, hk, hbl, hcs, hr, hnd, hxw⟩ := hrel
      by_cases hlt : k < n
      · have g1 := (hxw.cells _ _ hb).trans (Hc.out k hlt)
        obtain ⟨x, ex⟩ : ∃ x, p.getD k 0 = x := ⟨_, rfl⟩
        rw [ex] at g1
        have Ex := hid ex
        have hbad := hid (fun (h : ¬ (0 ≤ x ∧ x < n) ∨ x ∈ p.take k) => (show O = false by
          rw [← HO.out, Bool.eq_false_iff]
          intro hb
          obtain ⟨_, _, ho⟩ := ordB_iff.1 hb
          rw [En.out] at ho
          have hg := ho.get (k := k) hlt
          rw [ex] at hg
          rcases h with h | h
          · exact h hg
          · obtain ⟨j, hj, e⟩ := List.getElem_of_mem h
            rw [List.length_take] at hj
            have := ho.inj (i := j) (k := k) (by omega) hlt (by
              rw [ex, ← e]; simp [List.getD, show j < p.length by omega])
            omega))
        clear ex
        by_cases c1 : x < 0
        · have hf := hid (hbad.out (.inl (by omega)))
          go_wp2_with fail
          go_ret
          exact ⟨ret_bool hf.out.symm, hxw⟩
        by_cases c2 : (n : Int) ≤ x
        · have hf := hid (hbad.out (.inl (by omega)))
          go_wp2_with fail
          go_ret
          exact ⟨ret_bool hf.out.symm, hxw⟩
        obtain ⟨t, rfl⟩ := Int.eq_ofNat_of_zero_le (show 0 ≤ x by omega)
        have ht : t < n := by omega
        have gX := (hbl.out.cell t).trans (hcs.out t (by omega))
        have gF := hbl.out.frozen t
        have hsz : t < cs.size := (Array.getElem?_eq_some_iff.1 (hcs.out t (by omega))).1
        obtain ⟨B, eB⟩ : ∃ B, decide ((t : Int) ∈ p.take k) = B := ⟨_, rfl⟩
        rw [eB] at gX
        have EB := hid eB
        clear eB
        cases B with
        | true =>
          have hf := hid (hbad.out (.inr (of_decide_eq_true EB.out)))
          go_wp2_with fail
          go_ret
          exact ⟨ret_bool hf.out.symm, hxw⟩
        | false =>
          have hnew := hid (of_decide_eq_false EB.out)
          go_wp2_with fail
          go_roundw
          case rel =>
            have hkl : k < p.length := by have := En.out; omega
            refine ⟨k + 1, cs.setIfInBounds t (.bool true), by go_num, by omega, hid (hbl.out.set_ t (.bool true)), hid (fun y hy => ?_), hid (fun j hj => ?_), hid ?_, hxw.setCell (p := ⟨w.heap.size, t, none⟩) (Nat.le_refl _) _⟩
            · rw [Array.getElem?_setIfInBounds, take_snoc_getD hkl, Ex.out]
              by_cases e : t = y
              · subst e
                rw [if_pos rfl, if_pos hsz]
                congr 2
                symm
                exact decide_eq_true (by simp)
              · rw [if_neg e, hcs.out y hy]
                congr 2
                rw [decide_eq_decide]
                simp only [List.mem_append, List.mem_singleton]
                exact ⟨.inl, fun h => h.resolve_right (by omega)⟩
            · by_cases e : j = k
              · rw [e, Ex.out]; omega
              · exact hr.out j (by omega)
            · exact nodup_take_succ hkl hnd.out (by rw [Ex.out]; exact hnew.out)
          case measure => simp [intOf]; omega
      · obtain rfl : n = k := by omega
        have hf := hid (show O = true by
          rw [← HO.out]
          have hl := En.out
          have hnd2 := hnd.out
          rw [List.take_of_length_le (by omega)] at hnd2
          exact (Ord.of_nodup hl hr.out hnd2).b (by omega) hn2.2)
        go_wp2_with fail
        go_ret
        exact ⟨ret_bool hf.out.symm, hxw⟩
  · have s : sideB n = false := decide_eq_false hn
    have hf : O = false := by
      rw [← HO.out, Bool.eq_false_iff]
      intro hb
      obtain ⟨h1, h2, _⟩ := ordB_iff.1 hb
      rw [En.out] at h1 h2
      exact hn (by omega)
    subst hf
    clear hn K3
    go_enter Try.func76, Try.ntmps76
    go_wp2_with (go_at_call 78; refine (CS.out _ _).mono ?_; rintro _ _ ⟨rfl, rfl⟩)
    go_ret
    exact ⟨rfl, Ext.refl _⟩

/-- a block whose first so many cells are numbers -/
theorem Blk.ints {w : World} {g n : Nat} {t : TypeId} {cs : Array Value} {k : IntKind} {xs : List Int} (h : Blk w g t cs) (hl : xs.length = n) (hn : n ≤ 9223372036854775807) (hc : ∀ j, j < n → cs[j]? = some (.int k (xs.getD j 0))) : Ints k w (.slice (some ⟨g, 0, none⟩) n n) xs := by
  subst hl
  exact Ints.mk (Nat.le_refl _) hn h.lt fun j hj => by rw [Nat.zero_add, h.cell j]; exact hc j hj

end Go.Proofs.Ytdfkojbfgodegaa
/- Package perm: an order done to things of any kind; Then, Do. -/
namespace Go.Proofs.Ytdfkojbfgodegaa
open Go.RowKit Go.Maps

/-- in the world w the slice u reads as the values us -/
def Vals (w : World) (u : Value) (us : List Value) : Prop :=
  ∃ (a : Option Addr) (cap : Nat), u = .slice a us.length cap ∧ us.length ≤ cap ∧ cap ≤ 9223372036854775807 ∧
    (0 < us.length → ∃ b off, a = some ⟨b, off, none⟩ ∧ b < w.heap.size ∧ ∀ j x, us[j]? = some x → w.cell? ⟨b, off + j, none⟩ = some x)
theorem Vals.ext {w w' : World} {u : Value} {us : List Value} (h : Vals w u us) (he : Ext w w') : Vals w' u us := by
  obtain ⟨a, cap, h1, h2, h3, h4⟩ := h
  refine ⟨a, cap, h1, h2, h3, fun hp => ?_⟩
  obtain ⟨b, off, ha, hb, hc⟩ := h4 hp
  exact ⟨b, off, ha, Nat.lt_of_lt_of_le hb he.size, fun j x hj => (he.cells _ _ hb).trans (hc j x hj)⟩
theorem getD_some {α : Type} {l : List α} {j : Nat} {x : α} (d : α) (h : l[j]? = some x) : l.getD j d = x := by rw [List.getD, h]; rfl
theorem Ints.vals {k : IntKind} {w : World} {v : Value} {xs : List Int} (h : Ints k w v xs) : Vals w v (xs.map (Value.int k)) := by
  obtain ⟨a, cap, h1, h2, h3, h4⟩ := h
  refine ⟨a, cap, by rw [h1, List.length_map], by rw [List.length_map]; exact h2, h3, fun hp => ?_⟩
  rw [List.length_map] at hp
  obtain ⟨b, off, ha, hb, hc⟩ := h4 hp
  refine ⟨b, off, ha, hb, fun j x hj => ?_⟩
  rw [List.getElem?_map] at hj
  obtain ⟨y, hy, rfl⟩ := Option.map_eq_some_iff.1 hj
  rw [hc j (List.getElem?_eq_some_iff.1 hy).1, getD_some 0 hy]
theorem Vals.ints {k : IntKind} {w : World} {v : Value} {xs : List Int} (h : Vals w v (xs.map (Value.int k))) : Ints k w v xs := by
  obtain ⟨a, cap, h1, h2, h3, h4⟩ := h
  rw [List.length_map] at h1 h2 h4
  refine ⟨a, cap, h1, h2, h3, fun hp => ?_⟩
  obtain ⟨b, off, ha, hb, hc⟩ := h4 hp
  refine ⟨b, off, ha, hb, fun j hj => hc j _ ?_⟩
  simp [List.getD, hj]
/-- what an order does to things of any kind -/
def doG {α : Type} (d : α) (p : List Int) (x : List α) : List α := p.map fun k => x.getD k.toNat d
theorem doG_len {α : Type} (d : α) (p : List Int) (x : List α) : (doG d p x).length = p.length := by simp [doG]
theorem doG_get {α : Type} {d : α} {p : List Int} {x : List α} {k : Nat} (hk : k < p.length) : (doG d p x)[k]? = some (x.getD (p.getD k 0).toNat d) := by
  simp [doG, List.getD, hk]
/-- a block whose first so many cells are known -/
theorem Blk.vals {w : World} {g n : Nat} {t : TypeId} {cs : Array Value} {us : List Value} (h : Blk w g t cs) (hl : us.length = n) (hn : n ≤ 9223372036854775807) (hc : ∀ j, j < n → cs[j]? = us[j]?) : Vals w (.slice (some ⟨g, 0, none⟩) n n) us := by
  subst hl
  refine ⟨_, _, rfl, Nat.le_refl _, hn, fun _ => ⟨g, 0, rfl, h.lt, fun j x hj => ?_⟩⟩
  rw [Nat.zero_add, h.cell j, hc j (List.getElem?_eq_some_iff.1 hj).1]; exact hj
/-- things that a call answers, or that something isn't right -/
def RetVals (ok : Bool) (us : List Value) (w : World) (e : Ending) (w' : World) : Prop :=
  ∃ (v : Value) (l' : List Value) (ee : Int), e = .returned (.tuple #[v, .int .i64 ee]) ∧ Vals w' v l' ∧ ee = (if ok = true then 0 else 1) ∧ l' = (if ok = true then us else []) ∧ Ext w w'
theorem Vals.nil {w : World} : Vals w (.slice none 0 0) [] := ⟨none, 0, rfl, by simp, by omega, by simp⟩
theorem make_rows {P : Program} (t e : TypeId) (bytes : Nat) (hb : bytes ≤ 24) (ht : P.underlying t = some (.slice e)) (hi : (P.info? e).map (fun i => (i.zero, i.size, i.bytes)) = some (some (.slice none 0 0), 1, bytes))
    (n c : Nat) (hnc : n ≤ c) (hc : c ≤ 1000000) (w : World) :
    (Instr.makeSlice t (.int .i64 n) (.int .i64 c)).run P w = .ok (.slice (some ⟨w.heap.size, 0, none⟩) n c) (w.alloc (.cells (madeCells #[Value.slice none 0 0] c) e)) := by
  obtain ⟨i, h1, h2, h3, h4⟩ := info_parts hi
  have hbc : i.bytes * c ≤ 24 * c := Nat.mul_le_mul_right _ (by omega)
  have hbi : (i.bytes : Int) * (c : Int) ≤ 281474976710656 := by rw [← Int.natCast_mul]; omega
  have := run_make (P := P) w t e i _ ht h1 h2 .i64 .i64 n c (by omega) (by omega) hbi (by omega)
  rw [this, h3]
  simp [Value.cells]
/-- a slice, as a value -/
def slV (x : Option Addr × Nat × Nat) : Value := .slice x.1 x.2.1 x.2.2

theorem thenL_doG (p q : List Int) : doG 0 q p = thenL p q := rfl
theorem doL_doG (p x : List Int) : doG 0 p x = doL p x := rfl
end Go.Proofs.Ytdfkojbfgodegaa
/- Package perm: what undoes an order, and its sign; what an order answers, if it is one. -/
namespace Go.Proofs.Ytdfkojbfgodegaa
open Go.RowKit Go.Maps

/-- a sign, of so many pairs -/
def sgnN (m : Nat) : Int := if m % 2 = 0 then 1 else -1
theorem sgnN_succ (m : Nat) : sgnN (m + 1) = -sgnN m := by
  unfold sgnN
  rcases Nat.mod_two_eq_zero_or_one m with h | h
  · rw [if_neg (by omega), if_pos h]
  · rw [if_pos (by omega), if_neg (by omega)]; rfl
theorem sgnN_or (m : Nat) : -1 ≤ sgnN m ∧ sgnN m ≤ 1 := by unfold sgnN; split <;> simp

set_option maxRecDepth 100000 in
set_option maxHeartbeats 1000000 in
theorem ordSign (v : Value) (p : List Int) (w : World) (hv : Ints .i64 w v p) (h0 : 0 < p.length) (hn : p.length ≤ 64) : Calls Try.prog 65 #[v] w (Ret (.int .i64 (sgnL p)) w) := by
  have HI := hid (fun i (h : i < p.length) => inv_take_succ h)
  have HG := hid (fun i k (h : k < p.length) => gtTo_succ (i := i) h)
  have HS := hid (show sgnL p = sgnN (invL (p.take p.length)) by rw [List.take_length]; rfl)
  obtain ⟨S0, hS0⟩ : ∃ S, sgnL p = S := ⟨_, rfl⟩
  rw [hS0] at HS ⊢
  clear hS0
  obtain ⟨a, cap, rfl, k1, k2, k3⟩ := hv
  obtain ⟨b, off, rfl, hb, hc⟩ := k3 h0
  have Hc := hid hc
  obtain ⟨n, en⟩ : ∃ n, p.length = n := ⟨_, rfl⟩
  rw [en] at HI HG HS k1 Hc h0 hn ⊢
  clear k3 hc en
  go_enter Try.func65, Try.ntmps65
  go_wp2_with fail
  go_loopw [10, 3] (fun iv sv wr => ∃ (i : Nat) (S : Int), iv = .int .i64 i ∧ sv = .int .i64 S ∧ i ≤ n ∧ Hid (S = sgnN (invL (p.take i))) ∧ Ext w wr) (fun iv _ _ => n - (intOf iv).toNat)
  case atStart => exact ⟨0, 1, rfl, rfl, Nat.zero_le _, hid (by simp [invL, sgnN]), Ext.refl _⟩
  case round =>
    obtain ⟨i, S, rfl, rfl, hi, hS, hw⟩ := hrel
    by_cases hlt : i < n
    · rename World => wo
      have gi := (hw.cells _ _ hb).trans (Hc.out i hlt)
      obtain ⟨x, ex⟩ : ∃ x, p.getD i 0 = x := ⟨_, rfl⟩
      rw [ex] at gi
      have Ex := hid ex
      clear ex
      go_wp2_with fail
      go_loopw [19, 3] (fun kv sv wr => ∃ (k : Nat) (S : Int), kv = .int .i64 k ∧ sv = .int .i64 S ∧ k ≤ i ∧ Hid (S = sgnN (invL (p.take i) + gtTo p i k)) ∧ Ext wo wr) (fun kv _ _ => i - (intOf kv).toNat)
      case atStart => exact ⟨0, S, rfl, rfl, Nat.zero_le _, hid (by rw [hS.out]; simp [gtTo]), Ext.refl _⟩
      case round =>
        clear hS
        obtain ⟨k, S, rfl, rfl, hk, hS, hwi⟩ := hrel
        by_cases hlk : k < i
        · have g2 := ((hw.trans hwi).cells _ _ hb).trans (Hc.out k (by omega))
          have hs := HG.out i k (by omega)
          rw [Ex.out] at hs
          obtain ⟨y, ey⟩ : ∃ y, p.getD k 0 = y := ⟨_, rfl⟩
          rw [ey] at g2 hs
          have hSb : -1 ≤ S ∧ S ≤ 1 := hS.out ▸ sgnN_or _
          clear ey
          by_cases hxy : x < y
          · rw [if_pos hxy] at hs
            have e := hid (show -S = sgnN (invL (p.take i) + gtTo p i (k + 1)) by rw [hs, ← Nat.add_assoc, sgnN_succ, hS.out])
            clear hs
            go_wp2_with fail
            go_roundw
            case rel => exact ⟨k + 1, -S, by go_num, by go_num, by omega, e, hwi⟩
            case measure => simp [intOf]; omega
          · rw [if_neg hxy] at hs
            have e := hid (show S = sgnN (invL (p.take i) + gtTo p i (k + 1)) by rw [hs]; exact hS.out)
            clear hs
            go_wp2_with fail
            go_roundw
            case rel => exact ⟨k + 1, S, by go_num, rfl, by omega, e, hwi⟩
            case measure => simp [intOf]; omega
        · obtain rfl : k = i := by omega
          have e := hid (show S = sgnN (invL (p.take (k + 1))) by rw [HI.out k hlt]; exact hS.out)
          go_wp2_with fail
          go_roundw
          case rel => exact ⟨k + 1, S, by go_num, rfl, by omega, e, hw.trans hwi⟩
          case measure => simp [intOf]; omega
    · obtain rfl : n = i := by omega
      go_wp2_with fail
      go_ret
      exact ⟨ret_int (by rw [HS.out, hS.out]), hw⟩

set_option maxHeartbeats 400000 in
theorem askSign (v : Value) (p : List Int) (w : World) (hv : Ints .i64 w v p) : Calls Try.prog 64 #[v, .func (.func 65) #[] #[]] w (Ret (.tuple #[.int .i64 (if ordB p = true then sgnL p else 0), .int .i64 (if ordB p = true then 0 else 1)]) w) := by
  have C1 := qmRight v p w hv
  have C2 := hid fun (hB : ordB p = true) (W : World) (hW : Ext w W) => ordSign v p W (hv.ext hW) (ordB_iff.1 hB).1 (ordB_iff.1 hB).2.1
  cases hp : ordB p with
  | false =>
    rw [hp] at C1
    have C := hid C1
    clear C1 C2 hp
    go_enter Try.func64, Try.ntmps64
    go_wp2_with (go_at_call 76; refine C.out.mono ?_; rintro _ w1 ⟨rfl, x1⟩)
    go_ret2
    exact ⟨rfl, x1⟩
  | true =>
    rw [hp] at C1
    have C := hid C1
    have D := hid (C2.out hp)
    clear C1 C2 hp
    go_enter Try.func64, Try.ntmps64
    go_wp2_with (first
      | (go_at_call 76; refine C.out.mono ?_; rintro _ w1 ⟨rfl, x1⟩)
      | (go_at_call 65; refine (D.out _ x1).mono ?_; rintro _ w2 ⟨rfl, x2⟩))
    go_ret2
    exact ⟨rfl, x1.trans x2⟩
set_option maxHeartbeats 400000 in
theorem qmSign (v : Value) (p : List Int) (w : World) (hv : Ints .i64 w v p) : Calls Try.prog 42 #[v] w (Ret (.tuple #[.int .i64 (if ordB p = true then sgnL p else 0), .int .i64 (if ordB p = true then 0 else 1)]) w) := by
  have C := hid (askSign v p w hv)
  obtain ⟨a, ea⟩ : ∃ a, (if ordB p = true then sgnL p else 0) = a := ⟨_, rfl⟩
  obtain ⟨b, eb⟩ : ∃ b : Int, (if ordB p = true then 0 else 1) = b := ⟨_, rfl⟩
  rw [ea, eb] at C ⊢
  clear hv ea eb
  go_enter Try.func42, Try.ntmps42
  go_wp2_with (go_at_call 64; refine C.out.mono ?_; rintro _ w1 ⟨rfl, x1⟩)
  go_ret2
  exact ⟨rfl, x1⟩
end Go.Proofs.Ytdfkojbfgodegaa
/- Package matrix: One; the least and the greatest of a list; whether rows and columns may be picked. -/
namespace Go.Proofs.Ytdfkojbfgodegaa
open Go.RowKit Go.Maps

/-- may these be picked? -/
def picksB (many : Int) (l : List Int) : Bool := decide (1 ≤ l.length ∧ l.length ≤ 64) && l.all fun x => decide (0 ≤ x ∧ x < many)
end Go.Proofs.Ytdfkojbfgodegaa
