/- What prime.First, Check and Shows answer. -/
import Derived.Test.YtncidpckokclbaaDoorProves
import Derived.Maps.OwnOps
namespace Go.Proofs.YtncidpckokclbaaDoor
open Go.RowKit Go.Maps

/-- what a map's literal lays -/
theorem wpList_insert_own {H : Type} {P : Program} (w : World) {ops : Array Oper} {rest : List Oper} {o : Oper} {a : Act} {Q : Exit → Act → World → Prop}
    (hg : o.guard = none) (m x v : Operand) (t : TypeId) (hop : o.op = Op.insert t m x v)
    (k e : TypeId) (K : Keyed P k) (ht : P.underlying t = some (.map k e)) (R : Value → Option (DataW H × List MemPlace)) (b n : Nat) (D : DataW H)
    (hm : a.eval m = .map (some b)) (hown : w.ownsMap P k R b n D) (hn : n < maxLen) (key val : Value) (kl : Lit) (hx : a.eval x = key) (hv : a.eval v = val) (hkey : keyOf P k key = some kl)
    (d : DataW H) (ps : List MemPlace) (hval : R val = some (d, ps))
    (hK : ∀ w', w'.ownsMap P k R b (n + 1) (D.put kl d) → w.grownBy w' (some b) → wpList P ops Q rest (a.put o.dst undef) w') :
    wpList P ops Q (o :: rest) a w := by
  refine wpList_plain hg fun K' hK' => ?_
  obtain ⟨w', hrun, r1, r2⟩ := hown.update K ht hn hkey hval
  unfold Oper.wp
  simp [execOp, hop, hm, hx, hv, hrun, Result.andThen]
  exact hK' _ _ (hK w' r1 r2)

/-- what is known behind a list's beginning -/
def knownB (l : List Prf) (q : Int) : Bool := decide (q = 2 ∨ q ∈ l.map (·.num))
/-- the number ahead of one -/
def lastD (l : List Prf) : Nat → Int
  | 0 => 2
  | k + 1 => (l.getD k .zero).num
/-- is the proof at k one, and shows it its number, if all ahead do? -/
def okAt (l : List Prf) (k : Nat) : Bool := decide (k ≠ 200) && decide (lastD l k < (l.getD k .zero).num) && provesB (knownB (l.take k)) (l.getD k .zero)
def firstAt (ok : Nat → Bool) : Nat → Nat → Nat
  | 0, k => k
  | n + 1, k => if ok k then firstAt ok n (k + 1) else k
/-- the first that is none, or shows nothing -/
def firstD (l : List Prf) : Nat := firstAt (okAt l) l.length 0
theorem firstAt_eq (ok : Nat → Bool) : ∀ (n k r : Nat), k ≤ r → r ≤ k + n → (∀ j, k ≤ j → j < r → ok j = true) → (r < k + n → ok r = false) → firstAt ok n k = r
  | 0, k, r, h1, h2, _, _ => by rw [firstAt]; omega
  | n + 1, k, r, h1, h2, h3, h4 => by
    rw [firstAt]
    by_cases e : k = r
    · subst e; rw [h4 (by omega)]; rfl
    · rw [h3 k (Nat.le_refl _) (by omega), if_pos rfl]
      exact firstAt_eq ok n (k + 1) r (by omega) (by omega) (fun j a b => h3 j (by omega) b) (fun h => h4 (by omega))
theorem firstAt_spec (ok : Nat → Bool) : ∀ (n k : Nat), k ≤ firstAt ok n k ∧ firstAt ok n k ≤ k + n ∧ (∀ j, k ≤ j → j < firstAt ok n k → ok j = true) ∧ (firstAt ok n k < k + n → ok (firstAt ok n k) = false)
  | 0, k => by rw [firstAt]; exact ⟨by omega, by omega, fun j a b => by omega, fun h => by omega⟩
  | n + 1, k => by
    rw [firstAt]
    cases e : ok k with
    | false => exact ⟨by simp, by simp, fun j a b => by simp at b; omega, fun _ => by simp [e]⟩
    | true =>
      have := firstAt_spec ok n (k + 1)
      simp only [if_true]
      exact ⟨by omega, by omega, fun j a b => by
        by_cases h : j = k
        · rw [h]; exact e
        · exact this.2.2.1 j (by omega) b, fun h => this.2.2.2 (by omega)⟩
theorem firstD_eq {l : List Prf} {r : Nat} (h2 : r ≤ l.length) (h3 : ∀ j, j < r → okAt l j = true) (h4 : r < l.length → okAt l r = false) : firstD l = r :=
  firstAt_eq _ _ _ _ (Nat.zero_le _) (by omega) (fun j _ b => h3 j b) (fun h => h4 (by omega))
theorem firstD_le (l : List Prf) : firstD l ≤ l.length := by have := (firstAt_spec (okAt l) l.length 0).2.1; simpa [firstD] using this
theorem firstD_ok (l : List Prf) {j : Nat} (h : j < firstD l) : okAt l j = true := (firstAt_spec (okAt l) l.length 0).2.2.1 j (Nat.zero_le _) h
theorem firstD_not (l : List Prf) (h : firstD l < l.length) : okAt l (firstD l) = false := (firstAt_spec (okAt l) l.length 0).2.2.2 (by simpa [firstD] using h)

theorem knownB_snoc (l : List Prf) (k : Nat) (hk : k < l.length) (q : Int) : knownB (l.take (k + 1)) q = (decide (q = (l.getD k .zero).num) || knownB (l.take k) q) := by
  have e : l.take (k + 1) = l.take k ++ [l.getD k .zero] := by
    rw [List.take_succ_eq_append_getElem hk]; simp [List.getD, List.getElem?_eq_getElem hk]
  rw [e]
  generalize l.getD k .zero = f
  unfold knownB
  simp only [List.map_append, List.map_cons, List.map_nil, List.mem_append, List.mem_singleton]
  rw [Bool.eq_iff_iff]
  simp only [decide_eq_true_eq, Bool.or_eq_true]
  grind

set_option maxRecDepth 100000 in
set_option maxHeartbeats 2000000 in
theorem First_any (v : Value) (l : List Prf) (w : World) (hv : Proofs w v l) (hl : ∀ f ∈ l, f.Ok) :
    Calls Tryd.prog 12 #[v] w (Ret (.int .i64 (firstD l)) w) := by
  have hmm := @run_makeMap Tryd.prog
  obtain ⟨a, cap, rfl, hc1, hc2, hc⟩ := hv
  have Hc := hid hc; have Hl := hid hl
  clear hc hl
  obtain ⟨R, eR⟩ : ∃ R, firstD l = R := ⟨_, rfl⟩
  rw [eR]
  have ER := hid eR; clear eR
  go_enter Tryd.func12, Tryd.ntmps12
  go_wp2_with (first | (refine wpList_insert_own _ rfl _ _ _ 52 rfl 23 51 u64_key Tryd.underlying52 (unitElem (H := Unit)) w.heap.size 0 _ rfl (World.ownsMap_made _ _ _ _) (by unfold maxLen; omega) _ _ _ rfl rfl (u64_keyOf (n := 2) (by omega) (by omega)) _ [] unitElem_mk ?_; intro w1 hown1 hgrow1) | fail)
  have hx1 : Ext w w1 := ((Ext.refl w).alloc _).grown hgrow1 (fun k e => by cases e; exact Nat.le_refl _)
  clear hgrow1
  go_loopw [12, 4] (fun i m wr => ∃ (k : Nat) (D : DataW Unit) (last : Int), i = .int .i64 k ∧ m = .int .u64 last ∧ k ≤ l.length ∧ k ≤ 200 ∧ lastD l k = last ∧ 2 ≤ last ∧ last ≤ 18446744073709551615 ∧
    wr.ownsMap Tryd.prog 23 unitElem w.heap.size (k + 1) D ∧ (∀ q, Maps.has D (.int .u64 q) = knownB (l.take k) q) ∧ (∀ j, j < k → okAt l j = true) ∧ Ext w wr) (fun i _ _ => l.length - (intOf i).toNat)
  case atStart => exact ⟨0, _, 2, rfl, rfl, by omega, by omega, rfl, by omega, by omega, hown1, fun q => by rw [has_put (isMap_empty)]; simp [knownB, Maps.has], fun j hj => by omega, hx1⟩
  case round =>
    obtain ⟨k, D, last, rfl, rfl, hk, hk2, hlast, hl0, hl1, hown, hD, hall, hw⟩ := hrel
    have Hall := hid hall; have HD := hid hD; have Hlast := hid hlast
    clear hall hD hlast
    by_cases hlt : k < l.length
    · obtain ⟨b, off, rfl, hb, hcell⟩ := Hc.out (by omega)
      obtain ⟨c1, c2, v', c3, c4⟩ := hcell k hlt
      have g1 := (hw.cells _ _ hb).trans c1
      have g2 := (hw.cells _ _ hb).trans c2
      have g3 := (hw.cells _ _ hb).trans c3
      have hf := Hl.out _ (getD_mem .zero hlt)
      clear hcell c1 c2 c3
      have hok : okAt l k = (decide (k ≠ 200) && decide (last < (l.getD k .zero).num) && provesB (knownB (l.take k)) (l.getD k .zero)) := by rw [okAt, Hlast.out]
      have hsn := knownB_snoc l k hlt
      have hls : lastD l (k + 1) = (l.getD k .zero).num := rfl
      obtain ⟨f, ef⟩ : ∃ f, l.getD k .zero = f := ⟨_, rfl⟩
      rw [ef] at g1 g2 hf hok c4 hsn hls
      clear ef
      have HF := hid hf
      obtain ⟨n, r, ps⟩ := f
      have C4 := hid c4
      obtain ⟨pa, pcap, rfl, p1, p2, p3⟩ := c4
      have hp := proves_any ⟨n, r, ps⟩ (.slice pa ps.length pcap) w.heap.size (k + 1) D
      rw [show (fun q => Maps.has D (.int .u64 q)) = knownB (l.take k) from funext HD.out] at hp
      obtain ⟨hf0, hf1, hf2, hf3, hf4⟩ := hf
      simp only at g1 g2 g3 hf0 hf1 hf2 hf3 hls
      have HP := hid @hp
      have Hok := hid hok; have Hsn := hid hsn; have Hls := hid hls
      clear hp hok hsn hls p3 hf4
      by_cases h200 : k = 200
      · have hR : (R : Int) = k := by
          have := firstD_eq (l := l) (r := k) hk Hall.out (fun _ => by rw [Hok.out, h200]; rfl)
          rw [← ER.out, this]
        have HR := hid hR; clear hR
        have b1 : ((k : Int) == 200) = true := by simp; omega
        clear h200
        go_wp2_with fail
        go_ret
        exact ⟨ret_int HR.out.symm, (by repeat (first | exact Ext.refl _ | assumption | refine Ext.drew ?_ | refine Ext.drewN ?_ _ | refine Ext.alloc ?_ _ | refine Ext.trans ?_ (by assumption)))⟩
      have b1 : ((k : Int) == 200) = false := by simp; omega
      by_cases hle : n ≤ last
      · have hR : (R : Int) = k := by
          have := firstD_eq (l := l) (r := k) hk Hall.out (fun _ => by rw [Hok.out]; simp only [decide_eq_false (show ¬ last < n by omega), Bool.and_false, Bool.false_and])
          rw [← ER.out, this]
        have HR := hid hR; clear hR
        have b2 : decide (n ≤ last) = true := by simpa using hle
        go_wp2_with fail
        go_ret
        exact ⟨ret_int HR.out.symm, (by repeat (first | exact Ext.refl _ | assumption | refine Ext.drew ?_ | refine Ext.drewN ?_ _ | refine Ext.alloc ?_ _ | refine Ext.trans ?_ (by assumption)))⟩
      have b2 : decide (n ≤ last) = false := by simpa using hle
      obtain ⟨x, ex⟩ : ∃ x, provesB (knownB (l.take k)) ⟨n, r, ps⟩ = x := ⟨_, rfl⟩
      have Ex := hid ex; clear ex
      cases x with
      | false =>
        have hR : (R : Int) = k := by
          have := firstD_eq (l := l) (r := k) hk Hall.out (fun _ => by rw [Hok.out, Ex.out, Bool.and_false])
          rw [← ER.out, this]
        have HR := hid hR; clear hR
        go_wp2_with fail
        refine (HP.out _ HF.out (show 1 ≤ n by omega) (C4.out.ext (by repeat (first | exact Ext.refl _ | assumption | refine Ext.drew ?_ | refine Ext.drewN ?_ _ | refine Ext.alloc ?_ _ | refine Ext.trans ?_ (by assumption)))) (ownsMap_ext hown (by repeat (first | exact Ext.refl _ | assumption | refine Ext.drew ?_ | refine Ext.drewN ?_ _ | refine Ext.alloc ?_ _ | refine Ext.trans ?_ (by assumption))))).mono ?_; rintro _ w2 ⟨rfl, x2⟩
        rw [Ex.out]
        go_wp2_with fail
        go_ret
        exact ⟨ret_int HR.out.symm, (by repeat (first | exact Ext.refl _ | assumption | refine Ext.drew ?_ | refine Ext.drewN ?_ _ | refine Ext.alloc ?_ _ | refine Ext.trans ?_ (by assumption)))⟩
      | true =>
        have hokk : okAt l k = true := by rw [Hok.out, Ex.out]; simp [h200]; omega
        have Hokk := hid hokk; clear hokk
        go_wp2_with fail
        refine (HP.out _ HF.out (show 1 ≤ n by omega) (C4.out.ext (by repeat (first | exact Ext.refl _ | assumption | refine Ext.drew ?_ | refine Ext.drewN ?_ _ | refine Ext.alloc ?_ _ | refine Ext.trans ?_ (by assumption)))) (ownsMap_ext hown (by repeat (first | exact Ext.refl _ | assumption | refine Ext.drew ?_ | refine Ext.drewN ?_ _ | refine Ext.alloc ?_ _ | refine Ext.trans ?_ (by assumption))))).mono ?_; rintro _ w2 ⟨rfl, x2⟩
        rw [Ex.out]
        have B : Blk w2 wr.heap.size 42 #[.int .u64 n, .int .u64 r, .slice pa ps.length pcap] := (Blk.new wr _ _).ext (by repeat (first | exact Ext.refl _ | assumption | refine Ext.drew ?_ | refine Ext.drewN ?_ _ | refine Ext.alloc ?_ _ | refine Ext.trans ?_ (by assumption)))
        have c0 := B.cell 0
        simp only [List.getElem?_toArray, List.getElem?_cons_zero] at c0
        have hw2 : Ext wr w2 := (by repeat (first | exact Ext.refl _ | assumption | refine Ext.drew ?_ | refine Ext.drewN ?_ _ | refine Ext.alloc ?_ _ | refine Ext.trans ?_ (by assumption)))
        have hkey := hid (u64_keyOf hf0 hf1)
        go_wp2_with (first | (at_mapUpdate; refine wpList_mapUpdate_own _ rfl _ _ _ 52 rfl 23 51 u64_key Tryd.underlying52 (unitElem (H := Unit)) w.heap.size (k + 1) _ rfl (ownsMap_ext hown hw2) (by unfold maxLen; omega) _ _ _ rfl rfl hkey.out _ [] unitElem_mk ?_; intro w3 hown3 hgrow3; have c3 := hgrow3.cell c0 (by have := hown.lt; simp; omega)) | fail)
        go_roundw
        case rel => exact ⟨k + 1, _, n, by go_num, rfl, by omega, by omega, Hls.out, by omega, hf1, hown3, fun q => by rw [has_put hown.isMap, HD.out, Hsn.out], fun j hj => by
          by_cases e : j = k
          · rw [e]; exact Hokk.out
          · exact Hall.out j (by omega), (hw.trans hw2).grown hgrow3 (fun j e => by cases e; exact Nat.le_refl _)⟩
        case measure => simp [intOf]; omega
    · have hR : (R : Int) = l.length := by
        have := firstD_eq (l := l) (r := l.length) (Nat.le_refl _) (fun j hj => Hall.out j (by omega)) (fun h => by omega)
        rw [← ER.out, this]
      have HR := hid hR; clear hR
      go_wp2_with fail
      go_ret
      exact ⟨ret_int HR.out.symm, (by repeat (first | exact Ext.refl _ | assumption | refine Ext.drew ?_ | refine Ext.drewN ?_ _ | refine Ext.alloc ?_ _ | refine Ext.trans ?_ (by assumption)))⟩
end Go.Proofs.YtncidpckokclbaaDoor
