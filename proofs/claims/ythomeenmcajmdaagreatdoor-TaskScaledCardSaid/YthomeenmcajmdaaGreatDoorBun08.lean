import Derived.Test.YthomeenmcajmdaaGreatDoorBun07
import Derived.Maps.OwnOps
namespace Go.Proofs.YthomeenmcajmdaaGreatDoor
open Go.RowKit Go.Maps
theorem wpList_insert_own {H : Type} {P : Program} (w : World) {ops : Array Oper} {rest : List Oper} {o : Oper} {a : Act} {Q : Exit → Act → World → Prop}
    (hg : o.guard = none) (m x v : Operand) (t : TypeId) (hop : o.op = Op.insert t m x v)
    (k e : TypeId) (K : Keyed P k) (ht : P.underlying t = some (.map k e)) (R : Value → Option (DataW H × List MemPlace)) (b n : Nat) (D : DataW H)
    (hm : a.eval m = .map (some b)) (hown : w.ownsMap P k R b n D) (hn : n < maxLen) (key val : Value) (kl : Lit) (hx : a.eval x = key) (hv : a.eval v = val) (hkey : keyOf P k key = some kl)
    (d : DataW H) (ps : List MemPlace) (hval : R val = some (d, ps))
    (hK : ∀ w', w'.ownsMap P k R b (n + 1) (D.put kl d) → w.grownBy w' (some b) → wpList P ops Q rest (a.put o.dst undef) w') :
    wpList P ops Q (o :: rest) a w := by
  refine wpList_plain hg fun K' hK' => ?_
  obtain ⟨w', hrun, r1, r2⟩ := hown.update K ht hn hkey hval
  unfold Oper.wp
  simp [execOp, hop, hm, hx, hv, hrun, Result.andThen]
  exact hK' _ _ (hK w' r1 r2)
def knownB (l : List Prf) (q : Int) : Bool := decide (q = 2 ∨ q ∈ l.map (·.num))
def lastD (l : List Prf) : Nat → Int
  | 0 => 2
  | k + 1 => (l.getD k .zero).num
def okAt (l : List Prf) (k : Nat) : Bool := decide (k ≠ 200) && decide (lastD l k < (l.getD k .zero).num) && provesB (knownB (l.take k)) (l.getD k .zero)
def firstAt (ok : Nat → Bool) : Nat → Nat → Nat
  | 0, k => k
  | n + 1, k => if ok k then firstAt ok n (k + 1) else k
def firstD (l : List Prf) : Nat := firstAt (okAt l) l.length 0
theorem firstAt_eq (ok : Nat → Bool) : ∀ (n k r : Nat), k ≤ r → r ≤ k + n → (∀ j, k ≤ j → j < r → ok j = true) → (r < k + n → ok r = false) → firstAt ok n k = r
  | 0, k, r, h1, h2, _, _ => by rw [firstAt]; omega
  | n + 1, k, r, h1, h2, h3, h4 => by
    rw [firstAt]
    by_cases e : k = r
    · subst e; rw [h4 (by omega)]; rfl
    · rw [h3 k (Nat.le_refl _) (by omega), if_pos rfl]
      exact firstAt_eq ok n (k + 1) r (by omega) (by omega) (fun j a b => h3 j (by omega) b) (fun h => h4 (by omega))
theorem firstAt_spec (ok : Nat → Bool) : ∀ (n k : Nat), k ≤ firstAt ok n k ∧ firstAt ok n k ≤ k + n ∧ (∀ j, k ≤ j → j < firstAt ok n k → ok j = true) ∧ (firstAt ok n k < k + n → ok (firstAt ok n k) = false)
  | 0, k => by rw [firstAt]; exact ⟨by omega, by omega, fun j a b => by omega, fun h => by omega⟩
  | n + 1, k => by
    rw [firstAt]
    cases e : ok k with
    | false => exact ⟨by simp, by simp, fun j a b => by simp at b; omega, fun _ => by simp [e]⟩
    | true =>
      have := firstAt_spec ok n (k + 1)
      simp only [if_true]
      exact ⟨by omega, by omega, fun j a b => by
        by_cases h : j = k
        · rw [h]; exact e
        · exact this.2.2.1 j (by omega) b, fun h => this.2.2.2 (by omega)⟩
theorem firstD_eq {l : List Prf} {r : Nat} (h2 : r ≤ l.length) (h3 : ∀ j, j < r → okAt l j = true) (h4 : r < l.length → okAt l r = false) : firstD l = r :=
  firstAt_eq _ _ _ _ (Nat.zero_le _) (by omega) (fun j _ b => h3 j b) (fun h => h4 (by omega))
theorem firstD_ok (l : List Prf) {j : Nat} (h : j < firstD l) : okAt l j = true := (firstAt_spec (okAt l) l.length 0).2.2.1 j (Nat.zero_le _) h
theorem knownB_snoc (l : List Prf) (k : Nat) (hk : k < l.length) (q : Int) : knownB (l.take (k + 1)) q = (decide (q = (l.getD k .zero).num) || knownB (l.take k) q) := by
  have e : l.take (k + 1) = l.take k ++ [l.getD k .zero] := by
    rw [List.take_succ_eq_append_getElem hk]; simp [List.getD, List.getElem?_eq_getElem hk]
  rw [e]
  generalize l.getD k .zero = f
  unfold knownB
  simp only [List.map_append, List.map_cons, List.map_nil, List.mem_append, List.mem_singleton]
  rw [Bool.eq_iff_iff]
  simp only [decide_eq_true_eq, Bool.or_eq_true]
  grind
set_option maxRecDepth 100000 in
set_option maxHeartbeats 2000000 in
theorem First_any (v : Value) (l : List Prf) (w : World) (hv : Proofs w v l) (hl : ∀ f ∈ l, f.Ok) :
    Calls Tryz.prog 93 #[v] w (Ret (.int .i64 (firstD l)) w) := by
  have hmm := @run_makeMap Tryz.prog
  obtain ⟨a, cap, rfl, hc1, hc2, hc⟩ := hv
  have Hc := hid hc; have Hl := hid hl
  clear hc hl
  obtain ⟨R, eR⟩ : ∃ R, firstD l = R := ⟨_, rfl⟩
  rw [eR]
  have ER := hid eR; clear eR
  go_enter Tryz.func93, Tryz.ntmps93
  go_wp2_with (first | (refine wpList_insert_own _ rfl _ _ _ 152 rfl 22 151 u64_key Tryz.underlying152 (unitElem (H := Unit)) w.heap.size 0 _ rfl (World.ownsMap_made _ _ _ _) (by unfold maxLen; omega) _ _ _ rfl rfl (u64_keyOf (n := 2) (by omega) (by omega)) _ [] unitElem_mk ?_; intro w1 hown1 hgrow1) | fail)
  have hx1 : Ext w w1 := ((Ext.refl w).alloc _).grown hgrow1 (fun k e => by cases e; exact Nat.le_refl _)
  clear hgrow1
  go_loopw [12, 4] (fun i m wr => ∃ (k : Nat) (D : DataW Unit) (last : Int), i = .int .i64 k ∧ m = .int .u64 last ∧ k ≤ l.length ∧ k ≤ 200 ∧ lastD l k = last ∧ 2 ≤ last ∧ last ≤ 18446744073709551615 ∧
    wr.ownsMap Tryz.prog 22 unitElem w.heap.size (k + 1) D ∧ (∀ q, Maps.has D (.int .u64 q) = knownB (l.take k) q) ∧ (∀ j, j < k → okAt l j = true) ∧ Ext w wr) (fun i _ _ => l.length - (intOf i).toNat)
  case atStart => exact ⟨0, _, 2, rfl, rfl, by omega, by omega, rfl, by omega, by omega, hown1, fun q => by rw [has_put (isMap_empty)]; simp [knownB, Maps.has], fun j hj => by omega, hx1⟩
  case round =>
    obtain ⟨k, D, last, rfl, rfl, hk, hk2, hlast, hl0, hl1, hown, hD, hall, hw⟩ := hrel
    have Hall := hid hall; have HD := hid hD; have Hlast := hid hlast
    clear hall hD hlast
    by_cases hlt : k < l.length
    · obtain ⟨b, off, rfl, hb, hcell⟩ := Hc.out (by omega)
      obtain ⟨c1, c2, v', c3, c4⟩ := hcell k hlt
      have g1 := (hw.cells _ _ hb).trans c1
      have g2 := (hw.cells _ _ hb).trans c2
      have g3 := (hw.cells _ _ hb).trans c3
      have hf := Hl.out _ (getD_mem .zero hlt)
      clear hcell c1 c2 c3
      have hok : okAt l k = (decide (k ≠ 200) && decide (last < (l.getD k .zero).num) && provesB (knownB (l.take k)) (l.getD k .zero)) := by rw [okAt, Hlast.out]
      have hsn := knownB_snoc l k hlt
      have hls : lastD l (k + 1) = (l.getD k .zero).num := rfl
      obtain ⟨f, ef⟩ : ∃ f, l.getD k .zero = f := ⟨_, rfl⟩
      rw [ef] at g1 g2 hf hok c4 hsn hls
      clear ef
      have HF := hid hf
      obtain ⟨n, r, ps⟩ := f
      have C4 := hid c4
      obtain ⟨pa, pcap, rfl, p1, p2, p3⟩ := c4
      have hp := proves_any ⟨n, r, ps⟩ (.slice pa ps.length pcap) w.heap.size (k + 1) D
      rw [show (fun q => Maps.has D (.int .u64 q)) = knownB (l.take k) from funext HD.out] at hp
      obtain ⟨hf0, hf1, hf2, hf3, hf4⟩ := hf
      simp only at g1 g2 g3 hf0 hf1 hf2 hf3 hls
      have HP := hid @hp
      have Hok := hid hok; have Hsn := hid hsn; have Hls := hid hls
      clear hp hok hsn hls p3 hf4
      by_cases h200 : k = 200
      · have hR : (R : Int) = k := by
          have := firstD_eq (l := l) (r := k) hk Hall.out (fun _ => by rw [Hok.out, h200]; rfl)
          rw [← ER.out, this]
        have HR := hid hR; clear hR
        have b1 : ((k : Int) == 200) = true := by simp; omega
        clear h200
        go_wp2_with fail
        go_ret
        exact ⟨ret_int HR.out.symm, (by repeat (first | exact Ext.refl _ | assumption | refine Ext.drew ?_ | refine Ext.drewN ?_ _ | refine Ext.alloc ?_ _ | refine Ext.trans ?_ (by assumption)))⟩
      have b1 : ((k : Int) == 200) = false := by simp; omega
      by_cases hle : n ≤ last
      · have hR : (R : Int) = k := by
          have := firstD_eq (l := l) (r := k) hk Hall.out (fun _ => by rw [Hok.out]; simp only [decide_eq_false (show ¬ last < n by omega), Bool.and_false, Bool.false_and])
          rw [← ER.out, this]
        have HR := hid hR; clear hR
        have b2 : decide (n ≤ last) = true := by simpa using hle
        go_wp2_with fail
        go_ret
        exact ⟨ret_int HR.out.symm, (by repeat (first | exact Ext.refl _ | assumption | refine Ext.drew ?_ | refine Ext.drewN ?_ _ | refine Ext.alloc ?_ _ | refine Ext.trans ?_ (by assumption)))⟩
      have b2 : decide (n ≤ last) = false := by simpa using hle
      obtain ⟨x, ex⟩ : ∃ x, provesB (knownB (l.take k)) ⟨n, r, ps⟩ = x := ⟨_, rfl⟩
      have Ex := hid ex; clear ex
      cases x with
      | false =>
        have hR : (R : Int) = k := by
          have := firstD_eq (l := l) (r := k) hk Hall.out (fun _ => by rw [Hok.out, Ex.out, Bool.and_false])
          rw [← ER.out, this]
        have HR := hid hR; clear hR
        go_wp2_with fail
        refine (HP.out _ HF.out (show 1 ≤ n by omega) (C4.out.ext (by repeat (first | exact Ext.refl _ | assumption | refine Ext.drew ?_ | refine Ext.drewN ?_ _ | refine Ext.alloc ?_ _ | refine Ext.trans ?_ (by assumption)))) (ownsMap_ext hown (by repeat (first | exact Ext.refl _ | assumption | refine Ext.drew ?_ | refine Ext.drewN ?_ _ | refine Ext.alloc ?_ _ | refine Ext.trans ?_ (by assumption))))).mono ?_; rintro _ w2 ⟨rfl, x2⟩
        rw [Ex.out]
        go_wp2_with fail
        go_ret
        exact ⟨ret_int HR.out.symm, (by repeat (first | exact Ext.refl _ | assumption | refine Ext.drew ?_ | refine Ext.drewN ?_ _ | refine Ext.alloc ?_ _ | refine Ext.trans ?_ (by assumption)))⟩
      | true =>
        have hokk : okAt l k = true := by rw [Hok.out, Ex.out]; simp [h200]; omega
        have Hokk := hid hokk; clear hokk
        go_wp2_with fail
        refine (HP.out _ HF.out (show 1 ≤ n by omega) (C4.out.ext (by repeat (first | exact Ext.refl _ | assumption | refine Ext.drew ?_ | refine Ext.drewN ?_ _ | refine Ext.alloc ?_ _ | refine Ext.trans ?_ (by assumption)))) (ownsMap_ext hown (by repeat (first | exact Ext.refl _ | assumption | refine Ext.drew ?_ | refine Ext.drewN ?_ _ | refine Ext.alloc ?_ _ | refine Ext.trans ?_ (by assumption))))).mono ?_; rintro _ w2 ⟨rfl, x2⟩
        rw [Ex.out]
        have B : Blk w2 wr.heap.size 71 #[.int .u64 n, .int .u64 r, .slice pa ps.length pcap] := (Blk.new wr _ _).ext (by repeat (first | exact Ext.refl _ | assumption | refine Ext.drew ?_ | refine Ext.drewN ?_ _ | refine Ext.alloc ?_ _ | refine Ext.trans ?_ (by assumption)))
        have c0 := B.cell 0
        simp only [List.getElem?_toArray, List.getElem?_cons_zero] at c0
        have hw2 : Ext wr w2 := (by repeat (first | exact Ext.refl _ | assumption | refine Ext.drew ?_ | refine Ext.drewN ?_ _ | refine Ext.alloc ?_ _ | refine Ext.trans ?_ (by assumption)))
        have hkey := hid (u64_keyOf hf0 hf1)
        go_wp2_with (first | (at_mapUpdate; refine wpList_mapUpdate_own _ rfl _ _ _ 152 rfl 22 151 u64_key Tryz.underlying152 (unitElem (H := Unit)) w.heap.size (k + 1) _ rfl (ownsMap_ext hown hw2) (by unfold maxLen; omega) _ _ _ rfl rfl hkey.out _ [] unitElem_mk ?_; intro w3 hown3 hgrow3; have c3 := hgrow3.cell c0 (by have := hown.lt; simp; omega)) | fail)
        go_roundw
        case rel => exact ⟨k + 1, _, n, by go_num, rfl, by omega, by omega, Hls.out, by omega, hf1, hown3, fun q => by rw [has_put hown.isMap, HD.out, Hsn.out], fun j hj => by
          by_cases e : j = k
          · rw [e]; exact Hokk.out
          · exact Hall.out j (by omega), (hw.trans hw2).grown hgrow3 (fun j e => by cases e; exact Nat.le_refl _)⟩
        case measure => simp [intOf]; omega
    · have hR : (R : Int) = l.length := by
        have := firstD_eq (l := l) (r := l.length) (Nat.le_refl _) (fun j hj => Hall.out j (by omega)) (fun h => by omega)
        rw [← ER.out, this]
      have HR := hid hR; clear hR
      go_wp2_with fail
      go_ret
      exact ⟨ret_int HR.out.symm, (by repeat (first | exact Ext.refl _ | assumption | refine Ext.drew ?_ | refine Ext.drewN ?_ _ | refine Ext.alloc ?_ _ | refine Ext.trans ?_ (by assumption)))⟩
end Go.Proofs.YthomeenmcajmdaaGreatDoor
namespace Go.Proofs.YthomeenmcajmdaaGreatDoor
open Go.RowKit Go.Maps
set_option maxHeartbeats 400000 in
theorem Check_any (v : Value) (l : List Prf) (w : World) (hv : Proofs w v l) (hl : ∀ f ∈ l, f.Ok) :
    Calls Tryz.prog 61 #[v] w (Ret (.bool (decide (firstD l = l.length))) w) := by
  have Hv := hid hv
  obtain ⟨a, cap, rfl, hc1, hc2, hc⟩ := hv
  have Hl := hid hl
  clear hc hl
  go_enter Tryz.func61, Tryz.ntmps61
  go_wp2_with fail
  refine (First_any _ l _ Hv.out Hl.out).mono ?_; rintro _ w1 ⟨rfl, x1⟩
  go_wp2_with fail
  go_ret
  exact ⟨ret_bool (by rw [Bool.eq_iff_iff]; simp; omega), (by repeat (first | exact Ext.refl _ | assumption | refine Ext.drew ?_ | refine Ext.drewN ?_ _ | refine Ext.alloc ?_ _ | refine Ext.trans ?_ (by assumption)))⟩
set_option maxHeartbeats 400000 in
theorem Shows1_any (n r p : Int) (v : Value) (b : Nat) (w : World) (hp : w.cell? ⟨b, 0, none⟩ = some (.int .u64 p)) (ps : List (Int × Int)) (hv : Parts w v ps) :
    Calls Tryz.prog 63 #[.agg #[.int .u64 n, .int .u64 r, v], .pointer (some ⟨b, 0, none⟩)] w (Ret (.bool (decide (n = p))) w) := by
  have hb := cell_lt hp
  obtain ⟨a, cap, rfl, hc1, hc2, hc⟩ := hv
  have hp2 : (w.alloc (.cells #[.int .u64 n, .int .u64 r, .slice a ps.length cap] 71)).cell? ⟨b, 0, none⟩ = some (.int .u64 p) := (World.cell?_alloc_lt w _ _ hb).trans hp
  clear hc
  go_enter Tryz.func63, Tryz.ntmps63
  go_wp2_with fail
  go_ret
  exact ⟨ret_bool (by rw [Bool.eq_iff_iff]; simp), (by repeat (first | exact Ext.refl _ | assumption | refine Ext.drew ?_ | refine Ext.drewN ?_ _ | refine Ext.alloc ?_ _ | refine Ext.trans ?_ (by assumption)))⟩
set_option maxHeartbeats 1000000 in
theorem indexFuncP_any (v : Value) (l : List Prf) (p : Int) (b0 : Nat) (w : World) (hv : Proofs w v l) (hp : w.cell? ⟨b0, 0, none⟩ = some (.int .u64 p)) :
    Calls Tryz.prog 94 #[v, .func (.func 63) #[] #[.pointer (some ⟨b0, 0, none⟩)]] w
      fun e w' => ∃ i : Int, Ret (.int .i64 i) w e w' ∧ decide (0 ≤ i) = l.any fun f => decide (f.num = p) := by
  obtain ⟨a, cap, rfl, hc1, hc2, hc⟩ := hv
  have Hc := hid hc
  clear hc
  have hb0 := cell_lt hp
  go_enter Tryz.func94, Tryz.ntmps94
  go_wp2_with fail
  go_loopw [8] (fun i wr => ∃ k : Nat, i = .int .i64 k ∧ k ≤ l.length ∧ (∀ j, j < k → (l.getD j .zero).num ≠ p) ∧ Ext w wr) (fun i _ => l.length - (intOf i).toNat)
  case atStart => exact ⟨0, rfl, by omega, by simp, (by repeat (first | exact Ext.refl _ | assumption | refine Ext.drew ?_ | refine Ext.drewN ?_ _ | refine Ext.alloc ?_ _ | refine Ext.trans ?_ (by assumption)))⟩
  case round =>
    obtain ⟨k, rfl, hk, hall, hw⟩ := hrel
    have Ha := hid hall; clear hall
    by_cases hlt : k < l.length
    · obtain ⟨b, off, rfl, hb, hcell⟩ := Hc.out (by omega)
      obtain ⟨c1, c2, v', c3, c4⟩ := hcell k hlt
      have g1 := (hw.cells _ _ hb).trans c1
      have g2 := (hw.cells _ _ hb).trans c2
      have g3 := (hw.cells _ _ hb).trans c3
      clear hcell c1 c2 c3
      have hm := getD_mem .zero hlt
      obtain ⟨f, ef⟩ : ∃ f, l.getD k .zero = f := ⟨_, rfl⟩
      rw [ef] at g1 g2 c4 hm
      have Ef := hid ef
      have Hm := hid hm
      clear ef hm
      obtain ⟨n, r, ps⟩ := f
      have C4 := hid c4
      obtain ⟨pa, pcap, rfl, p1, p2, p3⟩ := c4
      clear p3
      simp only at g1 g2 g3 p1
      have hpr := (hw.cells _ 0 hb0).trans hp
      have HS := hid (Shows1_any n r p (.slice pa ps.length pcap) b0 wr hpr ps (C4.out.ext hw))
      by_cases he : n = p
      · have e1 : decide (n = p) = true := by simpa using he
        replace he := hid he
        go_wp2_with fail
        refine HS.out.mono ?_; rintro _ w2 ⟨rfl, x2⟩
        rw [e1]
        go_wp2_with fail
        go_ret
        refine ⟨_, ⟨rfl, (by repeat (first | exact Ext.refl _ | assumption | refine Ext.drew ?_ | refine Ext.drewN ?_ _ | refine Ext.alloc ?_ _ | refine Ext.trans ?_ (by assumption)))⟩, ?_⟩
        have : (l.any fun f => decide (f.num = p)) = true := List.any_eq_true.2 ⟨_, Hm.out, by simpa using he.out⟩
        rw [this]; simp
      · have e1 : decide (n = p) = false := by simpa using he
        replace he := hid he
        go_wp2_with fail
        refine HS.out.mono ?_; rintro _ w2 ⟨rfl, x2⟩
        rw [e1]
        go_wp2_with fail
        go_roundw
        case rel => exact ⟨k + 1, by go_num, by omega, fun j hj => by
          by_cases e : j = k
          · rw [e, Ef.out]; exact he.out
          · exact Ha.out j (by omega), (by repeat (first | exact Ext.refl _ | assumption | refine Ext.drew ?_ | refine Ext.drewN ?_ _ | refine Ext.alloc ?_ _ | refine Ext.trans ?_ (by assumption)))⟩
        case measure => simp [intOf]; omega
    · have : (l.any fun f => decide (f.num = p)) = false := by
        rw [List.any_eq_false]
        intro f hf
        obtain ⟨j, hj, rfl⟩ := List.mem_iff_getElem.1 hf
        have := Ha.out j (by omega)
        simpa [List.getD, List.getElem?_eq_getElem hj] using this
      have HH := hid this; clear this
      go_wp2_with fail
      go_ret
      exact ⟨_, ⟨rfl, (by repeat (first | exact Ext.refl _ | assumption | refine Ext.drew ?_ | refine Ext.drewN ?_ _ | refine Ext.alloc ?_ _ | refine Ext.trans ?_ (by assumption)))⟩, by rw [HH.out]; rfl⟩
set_option maxHeartbeats 400000 in
theorem containsP_any (v : Value) (l : List Prf) (p : Int) (b0 : Nat) (w : World) (hv : Proofs w v l) (hp : w.cell? ⟨b0, 0, none⟩ = some (.int .u64 p)) :
    Calls Tryz.prog 62 #[v, .func (.func 63) #[] #[.pointer (some ⟨b0, 0, none⟩)]] w
      (Ret (.bool (l.any fun f => decide (f.num = p))) w) := by
  have Hv := hid hv
  obtain ⟨a, cap, rfl, hc1, hc2, hc⟩ := hv
  clear hc
  go_enter Tryz.func62, Tryz.ntmps62
  go_wp2_with fail
  refine (indexFuncP_any _ l p b0 _ Hv.out hp).mono ?_; rintro _ w1 ⟨i, ⟨rfl, x1⟩, hi⟩
  have Hi := hid hi; clear hi
  go_wp2_with fail
  go_ret
  exact ⟨ret_bool Hi.out, (by repeat (first | exact Ext.refl _ | assumption | refine Ext.drew ?_ | refine Ext.drewN ?_ _ | refine Ext.alloc ?_ _ | refine Ext.trans ?_ (by assumption)))⟩
def showsB (l : List Prf) (p : Int) : Bool := decide (firstD l = l.length) && knownB l p
theorem knownB_any (l : List Prf) (p : Int) : knownB l p = (decide (p = 2) || l.any fun f => decide (f.num = p)) := by
  rw [Bool.eq_iff_iff]
  simp only [knownB, decide_eq_true_eq, Bool.or_eq_true, List.any_eq_true, List.mem_map]
set_option maxHeartbeats 400000 in
theorem Shows_any (v : Value) (l : List Prf) (p : Int) (w : World) (hv : Proofs w v l) (hl : ∀ f ∈ l, f.Ok) :
    Calls Tryz.prog 30 #[v, .int .u64 p] w (Ret (.bool (showsB l p)) w) := by
  have Hv := hid hv
  obtain ⟨a, cap, rfl, hc1, hc2, hc⟩ := hv
  have Hl := hid hl
  clear hc hl
  obtain ⟨x, ex⟩ : ∃ x, decide (firstD l = l.length) = x := ⟨_, rfl⟩
  have Ex := hid ex; clear ex
  cases x with
  | false =>
    go_enter Tryz.func30, Tryz.ntmps30
    go_wp2_with fail
    refine (Check_any _ l _ (Hv.out.ext (by repeat (first | exact Ext.refl _ | assumption | refine Ext.drew ?_ | refine Ext.drewN ?_ _ | refine Ext.alloc ?_ _ | refine Ext.trans ?_ (by assumption)))) Hl.out).mono ?_; rintro _ w1 ⟨rfl, x1⟩
    rw [Ex.out]
    go_wp2_with fail
    go_ret
    exact ⟨ret_bool (by simp [showsB, Ex.out]), (by repeat (first | exact Ext.refl _ | assumption | refine Ext.drew ?_ | refine Ext.drewN ?_ _ | refine Ext.alloc ?_ _ | refine Ext.trans ?_ (by assumption)))⟩
  | true =>
    by_cases h2 : p = 2
    · have e2 : (p == 2) = true := by simpa using h2
      replace h2 := hid h2
      go_enter Tryz.func30, Tryz.ntmps30
      go_wp2_with fail
      refine (Check_any _ l _ (Hv.out.ext (by repeat (first | exact Ext.refl _ | assumption | refine Ext.drew ?_ | refine Ext.drewN ?_ _ | refine Ext.alloc ?_ _ | refine Ext.trans ?_ (by assumption)))) Hl.out).mono ?_; rintro _ w1 ⟨rfl, x1⟩
      rw [Ex.out]
      have c0 : w1.cell? ⟨w.heap.size, 0, none⟩ = some (.int .u64 p) := (((Blk.new w _ _).ext x1).cell 0).trans rfl
      go_wp2_with fail
      go_ret
      exact ⟨ret_bool (by simp [showsB, Ex.out, knownB, h2.out]), (by repeat (first | exact Ext.refl _ | assumption | refine Ext.drew ?_ | refine Ext.drewN ?_ _ | refine Ext.alloc ?_ _ | refine Ext.trans ?_ (by assumption)))⟩
    · have e2 : (p == 2) = false := by simpa using h2
      go_enter Tryz.func30, Tryz.ntmps30
      go_wp2_with fail
      refine (Check_any _ l _ (Hv.out.ext (by repeat (first | exact Ext.refl _ | assumption | refine Ext.drew ?_ | refine Ext.drewN ?_ _ | refine Ext.alloc ?_ _ | refine Ext.trans ?_ (by assumption)))) Hl.out).mono ?_; rintro _ w1 ⟨rfl, x1⟩
      rw [Ex.out]
      have c0 : w1.cell? ⟨w.heap.size, 0, none⟩ = some (.int .u64 p) := (((Blk.new w _ _).ext x1).cell 0).trans rfl
      have hw1 : Ext w w1 := (by repeat (first | exact Ext.refl _ | assumption | refine Ext.drew ?_ | refine Ext.drewN ?_ _ | refine Ext.alloc ?_ _ | refine Ext.trans ?_ (by assumption)))
      go_wp2_with fail
      refine (containsP_any _ l p w.heap.size _ (Hv.out.ext hw1) c0).mono ?_; rintro _ w2 ⟨rfl, x2⟩
      go_wp2_with fail
      go_ret
      exact ⟨ret_bool (by simp only [showsB, Ex.out, knownB_any, decide_eq_false h2, Bool.false_or, Bool.true_and]), (by repeat (first | exact Ext.refl _ | assumption | refine Ext.drew ?_ | refine Ext.drewN ?_ _ | refine Ext.alloc ?_ _ | refine Ext.trans ?_ (by assumption)))⟩
end Go.Proofs.YthomeenmcajmdaaGreatDoor
