import Derived.Test.YthomeenmcajmdaaGreatDoorBun02
import Derived.Test.YthomeenmcajmdaaGreatDoorBun04
import Derived.Maps.OwnSet
import Derived.Maps.AppendAt
namespace Go.Proofs.YthomeenmcajmdaaGreatDoor
open Go.RowKit Go.Maps
def powv (n a t : Int) : Int := if hasB n [a] then mpow n a t else 0
theorem hasB_iff {n a : Int} : hasB n [a] = true ↔ (2 ≤ n ∧ n ≤ 9223372036854775807) ∧ a < n := by simp [hasB, rightB]
theorem powv_range (n a t : Int) : 0 ≤ powv n a t ∧ powv n a t ≤ 9223372036854775807 := by
  unfold powv
  split
  · have h := hasB_iff.1 ‹_›
    have := mpow_range (p := n) a t h.1.1
    omega
  · omega
set_option maxHeartbeats 400000 in
theorem power_any (n a t : Int) (w : World) (hn0 : 0 ≤ n) (hn : n ≤ 18446744073709551615) (ha0 : 0 ≤ a) (ha : a ≤ 18446744073709551615) (ht0 : 0 ≤ t) (ht : t ≤ 18446744073709551615) :
    Calls Tryz.prog 98 #[.int .u64 n, .int .u64 a, .int .u64 t] w (Ret (.int .u64 (powv n a t)) w) := by
  cases e : hasB n [a] with
  | true =>
    have e2 : powv n a t = mpow n a t := by simp [powv, e]
    rw [e2]
    have h := hasB_iff.1 e
    have hr := rightB_mk h.1
    have Hr := hid hr
    have h2 := h.2
    clear e e2 h hr
    go_enter Tryz.func98, Tryz.ntmps98
    go_wp2_with fail
    refine (pow_yes _ _ _ _ Hr.out ha0 h2 ht0 ht).mono ?_; rintro _ w1 ⟨rfl, h1⟩
    go_wp2_with fail
    go_ret
    exact ⟨rfl, (by repeat (first | exact Ext.refl _ | assumption | refine Ext.drew ?_ | refine Ext.drewN ?_ _ | refine Ext.alloc ?_ _ | refine Ext.trans ?_ (by assumption)))⟩
  | false =>
    have e2 : powv n a t = 0 := by simp [powv, e]
    rw [e2]
    have E := hid e
    clear e e2
    go_enter Tryz.func98, Tryz.ntmps98
    go_wp2_with fail
    refine (pow_no _ _ _ _ hn0 hn ha0 ha E.out).mono ?_; rintro _ w1 ⟨rfl, h1⟩
    go_wp2_with fail
    go_ret
    exact ⟨rfl, (by repeat (first | exact Ext.refl _ | assumption | refine Ext.drew ?_ | refine Ext.drewN ?_ _ | refine Ext.alloc ?_ _ | refine Ext.trans ?_ (by assumption)))⟩
def rootB (n r : Int) (ps : List (Int × Int)) : Bool := decide (powv n r (n - 1) = 1) && ps.all fun q => decide (powv n r ((n - 1) / q.1) ≠ 1)
set_option maxHeartbeats 1000000 in
theorem isRoot_any (n r : Int) (v : Value) (ps : List (Int × Int)) (w : World) (hn0 : 1 ≤ n) (hn : n ≤ 18446744073709551615) (hr0 : 0 ≤ r) (hr : r ≤ 18446744073709551615) (hv : Parts w v ps) (ho : PartsOk ps) (hp : ∀ q ∈ ps, 1 ≤ q.1) :
    Calls Tryz.prog 74 #[.int .u64 n, .int .u64 r, v] w (Ret (.bool (rootB n r ps)) w) := by
  obtain ⟨a, cap, rfl, hc1, hc2, hc⟩ := hv
  have Hc := hid hc; have Ho := hid ho; have Hp := hid hp
  clear hc ho hp
  obtain ⟨m, em⟩ : ∃ m, powv n r (n - 1) = m := ⟨_, rfl⟩
  have Em := hid em
  have hm := powv_range n r (n - 1)
  rw [em] at hm
  clear em
  by_cases h1 : m = 1
  · subst h1
    go_enter Tryz.func74, Tryz.ntmps74
    go_wp2_with fail
    refine (power_any n r (n - 1) _ (by omega) hn hr0 hr (by omega) (by omega)).mono ?_; rintro _ w1 ⟨rfl, x1⟩
    rw [Em.out]
    go_wp2_with fail
    go_loopw [17] (fun i wr => ∃ (k : Nat), i = .int .i64 k ∧ k ≤ ps.length ∧ (∀ j, j < k → powv n r ((n - 1) / (ps.getD j (0, 0)).1) ≠ 1) ∧ Ext w wr) (fun i _ => ps.length - (intOf i).toNat)
    case atStart => exact ⟨0, rfl, by omega, by simp, (by repeat (first | exact Ext.refl _ | assumption | refine Ext.drew ?_ | refine Ext.drewN ?_ _ | refine Ext.alloc ?_ _ | refine Ext.trans ?_ (by assumption)))⟩
    case round =>
      obtain ⟨k, rfl, hk, hall, hw⟩ := hrel
      have Ha := hid hall; clear hall
      by_cases hlt : k < ps.length
      · obtain ⟨b, off, rfl, hb, hcell⟩ := Hc.out (by omega)
        have g1 := (hw.cells _ _ hb).trans (hcell k hlt).1
        have g2 := (hw.cells _ _ hb).trans (hcell k hlt).2
        have hg := Ho.out.get hlt
        have hg1 := Hp.out _ (getD_mem (0, 0) hlt)
        clear hcell
        obtain ⟨q, eq⟩ : ∃ q, ps.getD k (0, 0) = q := ⟨_, rfl⟩
        obtain ⟨q1, q2⟩ := q
        rw [eq] at g1 g2 hg hg1
        have Eq := hid eq; clear eq
        simp only at g1 g2 hg hg1
        have hd : 0 ≤ (n - 1) / q1 ∧ (n - 1) / q1 ≤ n - 1 := ⟨Int.ediv_nonneg (by omega) (by omega), Int.ediv_le_self _ (by omega)⟩
        obtain ⟨x, ex⟩ : ∃ x, powv n r ((n - 1) / q1) = x := ⟨_, rfl⟩
        have hx := powv_range n r ((n - 1) / q1)
        rw [ex] at hx
        obtain ⟨y, ey⟩ : ∃ y, (n - 1) / q1 = y := ⟨_, rfl⟩
        rw [ey] at ex hd
        have Ex := hid ex; have Ey := hid ey
        clear ex
        by_cases h1 : x = 1
        · subst h1
          go_wp2_with fail
          refine (power_any n r y _ (by omega) hn hr0 hr hd.1 (by omega)).mono ?_; rintro _ w2 ⟨rfl, x2⟩
          rw [Ex.out]
          go_wp2_with fail
          go_ret
          refine ⟨ret_bool ?_, (by repeat (first | exact Ext.refl _ | assumption | refine Ext.drew ?_ | refine Ext.drewN ?_ _ | refine Ext.alloc ?_ _ | refine Ext.trans ?_ (by assumption)))⟩
          have : (ps.all fun q => decide (powv n r ((n - 1) / q.1) ≠ 1)) = false := by
            rw [List.all_eq_false]
            exact ⟨_, getD_mem (0, 0) hlt, by rw [Eq.out]; simp [Ey.out, Ex.out]⟩
          simp only [rootB, this, Bool.and_false]
        · go_wp2_with fail
          refine (power_any n r y _ (by omega) hn hr0 hr hd.1 (by omega)).mono ?_; rintro _ w2 ⟨rfl, x2⟩
          rw [Ex.out]
          go_wp2_with fail
          go_roundw
          case rel => exact ⟨k + 1, by go_num, by omega, fun j hj => by
            by_cases e : j = k
            · rw [e, Eq.out]; simp only [Ey.out, Ex.out]; exact h1
            · exact Ha.out j (by omega), (by repeat (first | exact Ext.refl _ | assumption | refine Ext.drew ?_ | refine Ext.drewN ?_ _ | refine Ext.alloc ?_ _ | refine Ext.trans ?_ (by assumption)))⟩
          case measure => simp [intOf]; omega
      · have : (ps.all fun q => decide (powv n r ((n - 1) / q.1) ≠ 1)) = true := by
          rw [List.all_eq_true]
          intro q hq
          obtain ⟨j, hj, rfl⟩ := List.mem_iff_getElem.1 hq
          have := Ha.out j (by omega)
          simpa [List.getD, List.getElem?_eq_getElem hj] using this
        have H := hid this; clear this
        go_wp2_with fail
        go_ret
        refine ⟨ret_bool ?_, (by repeat (first | exact Ext.refl _ | assumption | refine Ext.drew ?_ | refine Ext.drewN ?_ _ | refine Ext.alloc ?_ _ | refine Ext.trans ?_ (by assumption)))⟩
        simp only [rootB, H.out, Em.out, Bool.and_true, decide_true]
  · go_enter Tryz.func74, Tryz.ntmps74
    go_wp2_with fail
    refine (power_any n r (n - 1) _ (by omega) hn hr0 hr (by omega) (by omega)).mono ?_; rintro _ w1 ⟨rfl, x1⟩
    rw [Em.out]
    go_wp2_with fail
    go_ret
    refine ⟨ret_bool ?_, (by repeat (first | exact Ext.refl _ | assumption | refine Ext.drew ?_ | refine Ext.drewN ?_ _ | refine Ext.alloc ?_ _ | refine Ext.trans ?_ (by assumption)))⟩
    simp only [rootB, Em.out, h1, decide_false, Bool.false_and]
def divs (q : Int) : Nat → Int → Option Int
  | 0, n => some n
  | t + 1, n => if n % q = 0 then divs q t (n / q) else none
def upB : Int → List (Int × Int) → Int → Bool
  | _, [], n => decide (n = 1)
  | last, (q, t) :: ps, n => if q ≤ last ∨ t < 1 then false else match divs q t.toNat n with
    | none => false
    | some m => upB q ps m
def upIn (q : Int) (t : Nat) (ps : List (Int × Int)) (n : Int) : Bool := match divs q t n with
  | none => false
  | some m => upB q ps m
theorem upB_cons {last q t n : Int} {ps : List (Int × Int)} (h : last < q) (ht : 1 ≤ t) : upB last ((q, t) :: ps) n = upIn q t.toNat ps n := by
  rw [upB, if_neg (by omega)]; rfl
theorem upB_bad {last q t n : Int} {ps : List (Int × Int)} (h : q ≤ last ∨ t < 1) : upB last ((q, t) :: ps) n = false := by
  rw [upB, if_pos h]
theorem upIn_zero (q n : Int) (ps : List (Int × Int)) : upIn q 0 ps n = upB q ps n := rfl
theorem upIn_yes {q n : Int} {t : Nat} {ps : List (Int × Int)} (h : n % q = 0) : upIn q (t + 1) ps n = upIn q t ps (n / q) := by
  simp only [upIn, divs, if_pos h]
theorem upIn_no {q n : Int} {t : Nat} {ps : List (Int × Int)} (h : n % q ≠ 0) : upIn q (t + 1) ps n = false := by
  simp only [upIn, divs, if_neg h]
theorem upB_pos : ∀ {ps : List (Int × Int)} {last n : Int}, upB last ps n = true → ∀ q ∈ ps, last < q.1
  | [], _, _, _ => by simp
  | (q, t) :: ps, last, n, h => by
    by_cases hb : q ≤ last ∨ t < 1
    · rw [upB_bad hb] at h; cases h
    · rw [upB, if_neg hb] at h
      cases e : divs q t.toNat n with
      | none => rw [e] at h; cases h
      | some m =>
        rw [e] at h
        intro x hx
        rcases List.mem_cons.1 hx with rfl | hx
        · simp only; omega
        · have := upB_pos h x hx; omega
set_option maxHeartbeats 1000000 in
theorem makeUp_any (v : Value) (ps : List (Int × Int)) (n0 : Int) (w : World) (hn0 : 0 ≤ n0) (hn : n0 ≤ 18446744073709551615) (hv : Parts w v ps) (ho : PartsOk ps) :
    Calls Tryz.prog 150 #[v, .int .u64 n0] w (Ret (.bool (upB 1 ps n0)) w) := by
  obtain ⟨a, cap, rfl, hc1, hc2, hc⟩ := hv
  have Hc := hid hc; have Ho := hid ho
  clear hc ho
  obtain ⟨R, eR⟩ : ∃ R, upB 1 ps n0 = R := ⟨_, rfl⟩
  rw [eR]
  have ER := hid eR; clear eR
  go_enter Tryz.func150, Tryz.ntmps150
  go_wp2_with fail
  go_loopw [10, 1, 5] (fun i m l wr => ∃ (k : Nat) (n last : Int), i = .int .i64 k ∧ m = .int .u64 n ∧ l = .int .u64 last ∧ k ≤ ps.length ∧ 0 ≤ n ∧ n ≤ 18446744073709551615 ∧ 1 ≤ last ∧ last ≤ 18446744073709551615 ∧ upB last (ps.drop k) n = R ∧ Ext w wr) (fun i _ _ _ => ps.length - (intOf i).toNat)
  case atStart => exact ⟨0, n0, 1, rfl, rfl, rfl, by omega, hn0, hn, by omega, by omega, ER.out, (by repeat (first | exact Ext.refl _ | assumption | refine Ext.drew ?_ | refine Ext.drewN ?_ _ | refine Ext.alloc ?_ _ | refine Ext.trans ?_ (by assumption)))⟩
  case round =>
    obtain ⟨k, n, last, rfl, rfl, rfl, hk, hn0, hn, hl0, hl, hR, hw⟩ := hrel
    have HR := hid hR; clear hR
    by_cases hlt : k < ps.length
    · obtain ⟨b, off, rfl, hb, hcell⟩ := Hc.out (by omega)
      have g1 := (hw.cells _ _ hb).trans (hcell k hlt).1
      have g2 := (hw.cells _ _ hb).trans (hcell k hlt).2
      have hg := Ho.out.get hlt
      have hd : ps.drop k = ps.getD k (0, 0) :: ps.drop (k + 1) := by
        rw [List.drop_eq_getElem_cons hlt]; simp [List.getD, List.getElem?_eq_getElem hlt]
      clear hcell
      generalize ps.getD k (0, 0) = q at *
      obtain ⟨q1, q2⟩ := q
      simp only at g1 g2 hg
      have Hd := hid hd; clear hd
      by_cases hbad : q1 ≤ last ∨ q2 < 1
      · have e : R = false := by rw [← HR.out, Hd.out, upB_bad hbad]
        rw [e]
        have He := hid e; clear e HR ER
        rcases Int.lt_or_le last q1 with h1 | h1
        · have h2 : q2 < 1 := by omega
          clear hbad
          go_wp2_with fail
          go_ret
          exact ⟨rfl, (by repeat (first | exact Ext.refl _ | assumption | refine Ext.drew ?_ | refine Ext.drewN ?_ _ | refine Ext.alloc ?_ _ | refine Ext.trans ?_ (by assumption)))⟩
        · clear hbad
          go_wp2_with fail
          go_ret
          exact ⟨rfl, (by repeat (first | exact Ext.refl _ | assumption | refine Ext.drew ?_ | refine Ext.drewN ?_ _ | refine Ext.alloc ?_ _ | refine Ext.trans ?_ (by assumption)))⟩
      · have h1 : last < q1 := by omega
        have h2 : 1 ≤ q2 := by omega
        clear hbad
        have e := HR.out
        rw [Hd.out, upB_cons h1 h2] at e
        have He := hid e; clear e
        go_wp2_with fail
        go_loop [27, 1] (fun i m => ∃ (j : Nat) (n' : Int), i = .int .i64 j ∧ m = .int .u64 n' ∧ (j : Int) ≤ q2 ∧ 0 ≤ n' ∧ n' ≤ 18446744073709551615 ∧ upIn q1 (q2.toNat - j) (ps.drop (k + 1)) n' = R) (fun i _ => q2.toNat - (intOf i).toNat)
        case atStart => exact ⟨0, n, rfl, rfl, by omega, hn0, hn, He.out⟩
        case round =>
          obtain ⟨j, n', rfl, rfl, hj, hm0, hm, hI⟩ := hrel
          have HI := hid hI; clear hI He HR Hd
          by_cases hlj : (j : Int) < q2
          · have ej : q2.toNat - j = (q2.toNat - (j + 1)) + 1 := by omega
            have hI := HI.out
            rw [ej] at hI
            by_cases hz : n' % q1 = 0
            · rw [upIn_yes hz] at hI
              have HI2 := hid hI; clear hI
              have hq : 0 ≤ n' / q1 ∧ n' / q1 ≤ n' := ⟨Int.ediv_nonneg (by omega) (by omega), Int.ediv_le_self _ (by omega)⟩
              go_wp2_with fail
              go_round
              case rel => exact ⟨j + 1, n' / q1, by go_num, rfl, by omega, hq.1, by omega, HI2.out⟩
              case measure => simp [intOf]; omega
            · rw [upIn_no hz] at hI
              subst hI
              have hz0 := hid hz
              clear HI ER
              obtain ⟨z, ez⟩ : ∃ z, n' % q1 = z := ⟨_, rfl⟩
              rw [ez] at hz
              go_wp2_with fail
              go_ret
              exact ⟨rfl, (by repeat (first | exact Ext.refl _ | assumption | refine Ext.drew ?_ | refine Ext.drewN ?_ _ | refine Ext.alloc ?_ _ | refine Ext.trans ?_ (by assumption)))⟩
          · have ej : q2.toNat - j = 0 := by omega
            have hI := HI.out
            rw [ej, upIn_zero] at hI
            have HI2 := hid hI; clear hI
            go_wp2_with fail
            go_roundw
            case rel => exact ⟨k + 1, n', q1, by go_num, rfl, rfl, by omega, hm0, hm, by omega, by omega, HI2.out, (by repeat (first | exact Ext.refl _ | assumption | refine Ext.drew ?_ | refine Ext.drewN ?_ _ | refine Ext.alloc ?_ _ | refine Ext.trans ?_ (by assumption)))⟩
            case measure => simp [intOf]; omega
    · have e := HR.out
      rw [List.drop_eq_nil_of_le (by omega), upB] at e
      have He := hid e; clear e
      go_wp2_with fail
      go_ret
      exact ⟨ret_bool (by rw [← He.out]; rfl), (by repeat (first | exact Ext.refl _ | assumption | refine Ext.drew ?_ | refine Ext.drewN ?_ _ | refine Ext.alloc ?_ _ | refine Ext.trans ?_ (by assumption)))⟩
end Go.Proofs.YthomeenmcajmdaaGreatDoor
namespace Go.Proofs.YthomeenmcajmdaaGreatDoor
open Go.RowKit Go.Maps
theorem ownsMap_ext {H : Type} {P : Program} {k : TypeId} {R : Value → Option (DataW H × List MemPlace)} {w w' : World} {b n : Nat} {D : DataW H} (h : w.ownsMap P k R b n D) (he : Ext w w') : w'.ownsMap P k R b n D := by
  have hlt := h.lt
  obtain ⟨es, clock, hb, r⟩ := h
  exact ⟨es, clock, (he.block b hlt).trans hb, r⟩
theorem has_put {H : Type} {D : DataW H} (hD : IsMap D) (a q : Int) (d : DataW H) : Maps.has (D.put (.int .u64 a) d) (.int .u64 q) = (decide (q = a) || Maps.has D (.int .u64 q)) := by
  by_cases h : q = a
  · subst h; rw [has_put_same hD (by simp [WideAt.IsKeyLit])]; simp
  · rw [has_put_other (by simpa using h)]; simp [h]
theorem u64_key : Keyed Tryz.prog 22 := int_keyed Tryz.underlying22
theorem unit_zeroS (w : World) : (zeroValue 151).run Tryz.prog w = .ok (.agg #[]) w := by kernel_rfl
theorem u64_mk {n : Int} (h0 : 0 ≤ n) (h : n ≤ 18446744073709551615) : (Lit.int .u64 n).wf = true := by
  simp [Lit.wf, IntKind.min, IntKind.max, IntKind.bits, IntKind.signed]; omega
theorem u64_keyOf {n : Int} (h0 : 0 ≤ n) (h : n ≤ 18446744073709551615) : keyOf Tryz.prog 22 (.int .u64 n) = some (.int .u64 n) := keyOf_int_mk Tryz.underlying22 (u64_mk h0 h)
def provesB (known : Int → Bool) (f : Prf) : Bool :=
  decide (f.root ≠ 0) && hasB f.num [f.root] && decide (f.parts.length ≤ 20) && upB 1 f.parts (f.num - 1) && (f.parts.all fun q => known q.1) && rootB f.num f.root f.parts
set_option maxRecDepth 100000 in
set_option maxHeartbeats 2000000 in
theorem proves_any (f : Prf) (v : Value) (b nn : Nat) (D : DataW Unit) (w : World) (hf : f.Ok) (hn : 1 ≤ f.num) (hv : Parts w v f.parts) (hown : w.ownsMap Tryz.prog 22 unitElem b nn D) :
    Calls Tryz.prog 121 #[.agg #[.int .u64 f.num, .int .u64 f.root, v], .map (some b)] w (Ret (.bool (provesB (fun q => Maps.has D (.int .u64 q)) f)) w) := by
  obtain ⟨n, r, ps⟩ := f
  obtain ⟨hn0, hn1, hr0, hr1, ho⟩ := hf
  simp only at *
  have Hv := hid hv
  obtain ⟨a, cap, rfl, hc1, hc2, hc⟩ := hv
  have Hc := hid hc; have Ho := hid ho; have Hm := hid hown
  clear hc ho hown
  by_cases h0 : r = 0
  · go_enter Tryz.func121, Tryz.ntmps121
    go_wp2_with fail
    go_ret
    exact ⟨ret_bool (by simp [provesB, h0]), (by repeat (first | exact Ext.refl _ | assumption | refine Ext.drew ?_ | refine Ext.drewN ?_ _ | refine Ext.alloc ?_ _ | refine Ext.trans ?_ (by assumption)))⟩
  have b0 : (r == 0) = false := by simp [h0]
  cases eh : hasB n [r] with
  | false =>
    have EH := hid eh; clear eh
    go_enter Tryz.func121, Tryz.ntmps121
    go_wp2_with fail
    refine (has_any n _ [r] _ hn0 hn1 (Ints.at1 (by simp)) (U64s.one hr0 hr1)).mono ?_; rintro _ w1 ⟨rfl, h1⟩
    rw [EH.out]
    subst h1
    go_wp2_with fail
    go_ret
    exact ⟨ret_bool (by simp [provesB, EH.out]), (by repeat (first | exact Ext.refl _ | assumption | refine Ext.drew ?_ | refine Ext.drewN ?_ _ | refine Ext.alloc ?_ _ | refine Ext.trans ?_ (by assumption)))⟩
  | true =>
    have EH := hid eh; clear eh
    by_cases hl : ps.length ≤ 20
    · have b1 : decide ((20 : Int) < (ps.length : Int)) = false := by simp; omega
      cases eu : upB 1 ps (n - 1) with
      | false =>
        have EU := hid eu; clear eu
        go_enter Tryz.func121, Tryz.ntmps121
        go_wp2_with fail
        refine (has_any n _ [r] _ hn0 hn1 (Ints.at1 (by simp)) (U64s.one hr0 hr1)).mono ?_; rintro _ w1 ⟨rfl, h1⟩
        rw [EH.out]
        subst h1
        go_wp2_with fail
        refine (makeUp_any _ ps (n - 1) _ (by omega) (by omega) (Hv.out.ext (by repeat (first | exact Ext.refl _ | assumption | refine Ext.drew ?_ | refine Ext.drewN ?_ _ | refine Ext.alloc ?_ _ | refine Ext.trans ?_ (by assumption)))) Ho.out).mono ?_; rintro _ w2 ⟨rfl, h2⟩
        rw [EU.out]
        go_wp2_with fail
        go_ret
        exact ⟨ret_bool (by simp [provesB, EU.out]), (by repeat (first | exact Ext.refl _ | assumption | refine Ext.drew ?_ | refine Ext.drewN ?_ _ | refine Ext.alloc ?_ _ | refine Ext.trans ?_ (by assumption)))⟩
      | true =>
        have EU := hid eu; clear eu
        go_enter Tryz.func121, Tryz.ntmps121
        go_wp2_with fail
        refine (has_any n _ [r] _ hn0 hn1 (Ints.at1 (by simp)) (U64s.one hr0 hr1)).mono ?_; rintro _ w1 ⟨rfl, h1⟩
        rw [EH.out]
        subst h1
        go_wp2_with fail
        refine (makeUp_any _ ps (n - 1) _ (by omega) (by omega) (Hv.out.ext (by repeat (first | exact Ext.refl _ | assumption | refine Ext.drew ?_ | refine Ext.drewN ?_ _ | refine Ext.alloc ?_ _ | refine Ext.trans ?_ (by assumption)))) Ho.out).mono ?_; rintro _ w2 ⟨rfl, h2⟩
        rw [EU.out]
        have B : Blk w2 w.heap.size 71 #[.int .u64 n, .int .u64 r, .slice a ps.length cap] := (Blk.new w _ _).ext (by repeat (first | exact Ext.refl _ | assumption | refine Ext.drew ?_ | refine Ext.drewN ?_ _ | refine Ext.alloc ?_ _ | refine Ext.trans ?_ (by assumption)))
        have c0 := B.cell 0; have c1 := B.cell 1; have c2 := B.cell 2
        simp only [List.getElem?_toArray, List.getElem?_cons_zero, List.getElem?_cons_succ] at c0 c1 c2
        have hw2 : Ext w w2 := (by repeat (first | exact Ext.refl _ | assumption | refine Ext.drew ?_ | refine Ext.drewN ?_ _ | refine Ext.alloc ?_ _ | refine Ext.trans ?_ (by assumption)))
        go_wp2_with fail
        go_loopw [39] (fun i wr => ∃ (k : Nat), i = .int .i64 k ∧ k ≤ ps.length ∧ (∀ j, j < k → Maps.has D (.int .u64 (ps.getD j (0, 0)).1) = true) ∧ Ext w2 wr) (fun i _ => ps.length - (intOf i).toNat)
        case atStart => exact ⟨0, rfl, by omega, by simp, (by repeat (first | exact Ext.refl _ | assumption | refine Ext.drew ?_ | refine Ext.drewN ?_ _ | refine Ext.alloc ?_ _ | refine Ext.trans ?_ (by assumption)))⟩
        case round =>
          obtain ⟨k, rfl, hk, hall, hw⟩ := hrel
          have Ha := hid hall; clear hall
          by_cases hlt : k < ps.length
          · obtain ⟨b', off, rfl, hb, hcell⟩ := Hc.out (by omega)
            have g1 := ((hw2.trans hw).cells _ _ hb).trans (hcell k hlt).1
            have g2 := ((hw2.trans hw).cells _ _ hb).trans (hcell k hlt).2
            have hg := Ho.out.get hlt
            clear hcell
            obtain ⟨q, eq⟩ : ∃ q, ps.getD k (0, 0) = q := ⟨_, rfl⟩
            obtain ⟨q1, q2⟩ := q
            rw [eq] at g1 g2 hg
            have Eq := hid eq; clear eq
            simp only at g1 g2 hg
            obtain ⟨x, ex⟩ : ∃ x, Maps.has D (.int .u64 q1) = x := ⟨_, rfl⟩
            have Ex := hid ex
            have hkey := hid (u64_keyOf hg.1 hg.2.1)
            cases x with
            | false =>
              go_wp2_with (first | (at_lookup; refine wpList_lookup_own_unit _ rfl _ _ 152 rfl 22 151 u64_key Tryz.underlying152 (unit_zeroS _) b nn _ rfl (ownsMap_ext Hm.out (by repeat (first | exact Ext.refl _ | assumption | refine Ext.drew ?_ | refine Ext.drewN ?_ _ | refine Ext.alloc ?_ _ | refine Ext.trans ?_ (by assumption)))) _ _ rfl hkey.out ?_; rw [Ex.out]) | fail)
              go_ret
              refine ⟨ret_bool ?_, (by repeat (first | exact Ext.refl _ | assumption | refine Ext.drew ?_ | refine Ext.drewN ?_ _ | refine Ext.alloc ?_ _ | refine Ext.trans ?_ (by assumption)))⟩
              have : (ps.all fun q => Maps.has D (.int .u64 q.1)) = false := by
                rw [List.all_eq_false]
                exact ⟨_, getD_mem (0, 0) hlt, by rw [Eq.out]; simp [Ex.out]⟩
              simp only [provesB, this, Bool.and_false, Bool.false_and]
            | true =>
              go_wp2_with (first | (at_lookup; refine wpList_lookup_own_unit _ rfl _ _ 152 rfl 22 151 u64_key Tryz.underlying152 (unit_zeroS _) b nn _ rfl (ownsMap_ext Hm.out (by repeat (first | exact Ext.refl _ | assumption | refine Ext.drew ?_ | refine Ext.drewN ?_ _ | refine Ext.alloc ?_ _ | refine Ext.trans ?_ (by assumption)))) _ _ rfl hkey.out ?_; rw [Ex.out]) | fail)
              go_roundw
              case rel => exact ⟨k + 1, by go_num, by omega, fun j hj => by
                by_cases e : j = k
                · rw [e, Eq.out]; exact Ex.out
                · exact Ha.out j (by omega), (by repeat (first | exact Ext.refl _ | assumption | refine Ext.drew ?_ | refine Ext.drewN ?_ _ | refine Ext.alloc ?_ _ | refine Ext.trans ?_ (by assumption)))⟩
              case measure => simp [intOf]; omega
          · have hall : (ps.all fun q => Maps.has D (.int .u64 q.1)) = true := by
              rw [List.all_eq_true]
              intro q hq
              obtain ⟨j, hj, rfl⟩ := List.mem_iff_getElem.1 hq
              have := Ha.out j (by omega)
              simpa [List.getD, List.getElem?_eq_getElem hj] using this
            have Hall := hid hall; clear hall
            have B' := B.ext hw
            have d0 := B'.cell 0; have d1 := B'.cell 1; have d2 := B'.cell 2
            simp only [List.getElem?_toArray, List.getElem?_cons_zero, List.getElem?_cons_succ] at d0 d1 d2
            go_wp2_with fail
            refine (isRoot_any n r _ ps _ hn hn1 hr0 hr1 (Hv.out.ext (by repeat (first | exact Ext.refl _ | assumption | refine Ext.drew ?_ | refine Ext.drewN ?_ _ | refine Ext.alloc ?_ _ | refine Ext.trans ?_ (by assumption)))) Ho.out (fun q hq => by have := upB_pos EU.out q hq; omega)).mono ?_; rintro _ w3 ⟨rfl, h3⟩
            go_wp2_with fail
            go_ret
            refine ⟨ret_bool ?_, (by repeat (first | exact Ext.refl _ | assumption | refine Ext.drew ?_ | refine Ext.drewN ?_ _ | refine Ext.alloc ?_ _ | refine Ext.trans ?_ (by assumption)))⟩
            simp only [provesB, EU.out, EH.out, Hall.out, decide_eq_true hl, decide_eq_true h0, Bool.true_and]
    · have b1 : decide ((20 : Int) < (ps.length : Int)) = true := by simp; omega
      go_enter Tryz.func121, Tryz.ntmps121
      go_wp2_with fail
      refine (has_any n _ [r] _ hn0 hn1 (Ints.at1 (by simp)) (U64s.one hr0 hr1)).mono ?_; rintro _ w1 ⟨rfl, h1⟩
      rw [EH.out]
      subst h1
      go_wp2_with fail
      go_ret
      exact ⟨ret_bool (by simp [provesB, hl]), (by repeat (first | exact Ext.refl _ | assumption | refine Ext.drew ?_ | refine Ext.drewN ?_ _ | refine Ext.alloc ?_ _ | refine Ext.trans ?_ (by assumption)))⟩
end Go.Proofs.YthomeenmcajmdaaGreatDoor
namespace Go.Proofs.YthomeenmcajmdaaGreatDoor
open Go.RowKit Go.Maps
def stripT (d : Int) : Nat → Int → Int
  | 0, _ => 0
  | f + 1, n => if n % d = 0 then stripT d f (n / d) + 1 else 0
def stripN (d : Int) : Nat → Int → Int
  | 0, n => n
  | f + 1, n => if n % d = 0 then stripN d f (n / d) else n
def partsF : Nat → Int → Int → List (Int × Int) × Int
  | 0, _, n => ([], n)
  | f + 1, d, n => if d * d ≤ n then
      (if 0 < stripT d 64 n then (d, stripT d 64 n) :: (partsF f (d + 1) (stripN d 64 n)).1 else (partsF f (d + 1) (stripN d 64 n)).1, (partsF f (d + 1) (stripN d 64 n)).2)
    else ([], n)
def partsD (n : Int) : List (Int × Int) × Int :=
  if n ≤ 0 ∨ 9223372036854775808 ≤ n then ([], 1) else
    let r := partsF 65535 2 n
    if 4294967296 ≤ r.2 then ([], 3) else if 1 < r.2 then (r.1 ++ [(r.2, 1)], 0) else (r.1, 0)
theorem info_part : (Tryz.prog.info? 76).map (fun i => (i.zero, i.size, i.bytes)) = some (some (.agg #[.int .u64 0, .int .i64 0]), 2, 16) := by kernel_rfl
theorem strip_bound {n : Int} {t : Nat} (h : n * 2 ^ t < 18446744073709551616) (hn : 1 ≤ n) : t < 64 := by
  rcases Nat.lt_or_ge t 64 with h1 | h1
  · exact h1
  · exfalso
    have e : (2 : Int) ^ t = 2 ^ 64 * 2 ^ (t - 64) := by rw [← Int.pow_add]; congr 1; omega
    have h2 : (1 : Int) ≤ 2 ^ (t - 64) := by
      have := Int.pow_pos (n := 2) (m := t - 64) (by omega)
      omega
    have h3 : (2 : Int) ^ 64 ≤ 2 ^ t := by rw [e]; omega
    have h4 := Int.mul_le_mul hn h3 (by decide) (by omega)
    have : (2 : Int) ^ 64 = 18446744073709551616 := by decide
    omega
theorem strip_zero {d n : Int} (f : Nat) (h : n % d ≠ 0) : stripT d f n = 0 ∧ stripN d f n = n := by
  cases f with
  | zero => exact ⟨rfl, rfl⟩
  | succ f => simp only [stripT, stripN, if_neg h]; exact ⟨trivial, trivial⟩
theorem strip_step {d n : Int} {f : Nat} (h : n % d = 0) : stripT d (f + 1) n = stripT d f (n / d) + 1 ∧ stripN d (f + 1) n = stripN d f (n / d) := by
  simp only [stripT, stripN, if_pos h]; exact ⟨trivial, trivial⟩
theorem strip_half {d n m : Int} {t : Nat} (hd : 2 ≤ d) (hn : 1 ≤ n) (hz : n % d = 0) (h : n * 2 ^ t ≤ m) : n / d * 2 ^ (t + 1) ≤ m ∧ 1 ≤ n / d ∧ n / d < n := by
  have e := Int.mul_ediv_cancel' (Int.dvd_of_emod_eq_zero hz)
  have hp : (0 : Int) < 2 ^ t := Int.pow_pos (by omega)
  generalize n / d = q at *
  have hq : 1 ≤ q := by
    rcases Int.lt_or_le q 1 with h1 | h1
    · have := Int.mul_nonpos_of_nonneg_of_nonpos (show 0 ≤ d by omega) (show q ≤ 0 by omega)
      omega
    · exact h1
  have h2 : 2 * q ≤ n := by rw [← e]; exact Int.mul_le_mul_of_nonneg_right hd (by omega)
  refine ⟨?_, hq, by omega⟩
  have h3 := Int.mul_le_mul_of_nonneg_right h2 (show 0 ≤ (2 : Int) ^ t by omega)
  have e3 : q * 2 ^ (t + 1) = 2 * q * 2 ^ t := by rw [Int.pow_succ, Int.mul_comm ((2:Int)^t) 2, ← Int.mul_assoc, Int.mul_comm q 2]
  omega
set_option maxRecDepth 100000 in
set_option maxHeartbeats 2000000 in
theorem Parts_any (n0 : Int) (w : World) (h0 : 0 ≤ n0) (h1 : n0 ≤ 18446744073709551615) :
    Calls Tryz.prog 72 #[.int .u64 n0] w fun e w' => ∃ v, e = .returned (.tuple #[v, .int .i64 (partsD n0).2]) ∧ w'.ownsRow w.heap.size 76 2 v (partsD n0).1.length (flatP (partsD n0).1) ∧ Ext w w' := by
  obtain ⟨i0, hi, hz0, hz1, hz2⟩ := info_parts info_part
  by_cases hz : n0 = 0
  · have e : partsD n0 = ([], 1) := by simp [partsD, hz]
    rw [e]
    clear e
    subst hz
    go_enter Tryz.func72, Tryz.ntmps72
    go_wp2_with fail
    go_ret2
    exact ⟨_, rfl, World.ownsRow_nil _ _ _ _, (by repeat (first | exact Ext.refl _ | assumption | refine Ext.drew ?_ | refine Ext.drewN ?_ _ | refine Ext.alloc ?_ _ | refine Ext.trans ?_ (by assumption)))⟩
  by_cases hb : 9223372036854775808 ≤ n0
  · have e : partsD n0 = ([], 1) := by simp [partsD, hb]
    rw [e]
    clear e
    have b0 : (n0 == 0) = false := by simpa using hz
    go_enter Tryz.func72, Tryz.ntmps72
    go_wp2_with fail
    go_ret2
    exact ⟨_, rfl, World.ownsRow_nil _ _ _ _, (by repeat (first | exact Ext.refl _ | assumption | refine Ext.drew ?_ | refine Ext.drewN ?_ _ | refine Ext.alloc ?_ _ | refine Ext.trans ?_ (by assumption)))⟩
  have b0 : (n0 == 0) = false := by simpa using hz
  obtain ⟨R, eR⟩ : ∃ R, partsF 65535 2 n0 = R := ⟨_, rfl⟩
  have eD : partsD n0 = if 4294967296 ≤ R.2 then ([], 3) else if 1 < R.2 then (R.1 ++ [(R.2, 1)], 0) else (R.1, 0) := by
    rw [← eR, partsD, if_neg (by omega)]
  rw [eD]
  obtain ⟨⟨fs, fe⟩, eX⟩ : ∃ x, (if 4294967296 ≤ R.2 then (([], 3) : List (Int × Int) × Int) else if 1 < R.2 then (R.1 ++ [(R.2, 1)], 0) else (R.1, 0)) = x := ⟨_, rfl⟩
  rw [eX]
  have EX := hid eX
  clear eX
  simp only
  obtain ⟨rs, rest⟩ := R
  have ER := hid eR
  clear eR eD
  go_enter Tryz.func72, Tryz.ntmps72
  go_wp2_with fail
  go_loopw [5, 0, 4] (fun i m v wr => ∃ (d n : Int) (acc : List (Int × Int)), i = .int .u64 d ∧ m = .int .u64 n ∧ 2 ≤ d ∧ d ≤ 65537 ∧ 1 ≤ n ∧ n ≤ n0 ∧ (acc.length : Int) + 2 ≤ d ∧
    (acc ++ (partsF (65537 - d).toNat d n).1 = rs ∧ (partsF (65537 - d).toNat d n).2 = rest) ∧ wr.ownsRow w.heap.size 76 2 v acc.length (flatP acc) ∧ Ext w wr) (fun i _ _ _ => 65538 - (intOf i).toNat)
  case atStart => exact ⟨2, n0, [], rfl, rfl, by omega, by omega, by omega, by omega, by simp, by rw [show (65537 - 2 : Int).toNat = 65535 by rfl, ER.out]; exact ⟨rfl, rfl⟩, World.ownsRow_nil _ _ _ _, (by repeat (first | exact Ext.refl _ | assumption | refine Ext.drew ?_ | refine Ext.drewN ?_ _ | refine Ext.alloc ?_ _ | refine Ext.trans ?_ (by assumption)))⟩
  case round =>
    obtain ⟨d, n, acc, rfl, rfl, hd, hd2, hn, hn2, hacc, hF, hown, hw⟩ := hrel
    have HF := hid hF; clear hF
    by_cases hgo : d ≤ 65536 ∧ d * d ≤ n
    · have ef : (65537 - d).toNat = (65537 - (d + 1)).toNat + 1 := by omega
      have hF := HF.out
      rw [ef, partsF, if_pos hgo.2] at hF
      simp only at hF
      obtain ⟨T, eT⟩ : ∃ T, stripT d 64 n = T := ⟨_, rfl⟩
      obtain ⟨N, eN⟩ : ∃ N, stripN d 64 n = N := ⟨_, rfl⟩
      rw [eT, eN] at hF
      have HF2 := hid hF
      have ET := hid eT; have EN := hid eN
      clear hF eT eN ef HF
      have hsq := hgo.2
      have hd3 := hgo.1
      have hs0 : 0 ≤ d * d := Int.mul_nonneg (by omega) (by omega)
      have bb : decide (d * d ≤ n) = true := by simpa using hsq
      clear hgo
      go_wp2_with fail
      go_loop [0, 6] (fun m i => ∃ (n' : Int) (t : Nat), m = .int .u64 n' ∧ i = .int .i64 t ∧ 1 ≤ n' ∧ n' ≤ n ∧ t ≤ 64 ∧ n' * 2 ^ t ≤ n ∧ T = t + stripT d (64 - t) n' ∧ N = stripN d (64 - t) n') (fun m _ => (intOf m).toNat)
      case atStart => exact ⟨n, 0, rfl, rfl, by omega, by omega, by omega, by simp, by simp [ET.out], by simp [EN.out]⟩
      case round =>
        obtain ⟨n', t, rfl, rfl, hn3, hn4, ht, hp, hT, hN⟩ := hrel
        have HT := hid hT; have HN := hid hN; have HPw := hid hp
        clear hT hN hp
        by_cases hz : n' % d = 0
        · have ht2 := strip_bound (n := n') (t := t) (by have := HPw.out; omega) hn3
          have es : 64 - t = (64 - (t + 1)) + 1 := by omega
          have h5 := strip_half hd hn3 hz HPw.out
          have hT := HT.out; have hN := HN.out
          rw [es, (strip_step hz).1] at hT
          rw [es, (strip_step hz).2] at hN
          have HT2 := hid hT; have HN2 := hid hN; have H5 := hid h5.1
          have h6 := h5.2.1; have h7 := h5.2.2
          clear hT hN h5 es
          have bz : (n' % d == 0) = true := by simpa using hz
          go_wp2_with fail
          go_round
          case rel => exact ⟨n' / d, t + 1, rfl, by go_num, h6, by omega, by omega, H5.out, by rw [HT2.out]; omega, HN2.out⟩
          case measure => simp [intOf]; omega
        · have hT := HT.out; have hN := HN.out
          rw [(strip_zero _ hz).1, Int.add_zero] at hT
          rw [(strip_zero _ hz).2] at hN
          subst hT; subst hN
          have bz : (N % d == 0) = false := by simpa using hz
          have hF := HF2.out
          clear HT HN hz HF2
          by_cases ht0 : t = 0
          · subst ht0
            rw [if_neg (by simp)] at hF
            have HF3 := hid hF; clear hF
            go_wp2_with fail
            go_roundw
            case rel => exact ⟨d + 1, N, acc, rfl, rfl, by omega, by omega, hn3, by omega, by omega, HF3.out, hown, (by repeat (first | exact Ext.refl _ | assumption | refine Ext.drew ?_ | refine Ext.drewN ?_ _ | refine Ext.alloc ?_ _ | refine Ext.trans ?_ (by assumption)))⟩
            case measure => simp [intOf]; omega
          · rw [if_pos (by omega)] at hF
            have HF3 := hid hF; clear hF
            have bt : decide ((t : Int) > 0) = true := by simp; omega
            go_wp2_with (first | (at_builtin; refine wpList_append_own _ rfl _ _ 69 rfl w.heap.size 76 i0 (.agg #[.int .u64 0, .int .i64 0]) 2 16 Tryz.underlying69 hi hz0 hz1 hz2 rfl (by decide) _ _ _ rfl (hown.alloc _) ⟨wr.heap.size, 0, none⟩ 1 1 [.int .u64 d, .int .i64 t] rfl rfl (cells_new _ _ _ rfl) (by simp [Value.oneCell']) (by simp only [maxLen]; omega) (by omega) (by have := hw.size; simp; omega) ?_; intro v' w3 hown3 hgrow3 hnil3) | fail)
            go_roundw
            case rel => exact ⟨d + 1, N, acc ++ [(d, (t : Int))], rfl, rfl, by omega, by omega, hn3, by omega, by simp; omega, by simpa using HF3.out, by rw [flatP_snoc]; simpa using hown3, (hw.alloc _).grown hgrow3 (fun k e => (hown.lt k e).1)⟩
            case measure => simp [intOf]; omega
    · have hF := HF.out
      have e : partsF (65537 - d).toNat d n = ([], n) := by
        by_cases h : d ≤ 65536
        · rw [show (65537 - d).toNat = (65537 - (d + 1)).toNat + 1 by omega, partsF, if_neg (fun h2 => hgo ⟨h, h2⟩)]
        · rw [show (65537 - d).toNat = 0 by omega, partsF]
      rw [e] at hF
      simp only [List.append_nil] at hF
      obtain ⟨rfl, rfl⟩ := hF
      clear HF e
      have hout := hown.lt
      have hX := EX.out
      clear EX
      have hs0 : 0 ≤ d * d := Int.mul_nonneg (by omega) (by omega)
      have key : d ≤ 65536 → decide (d * d ≤ n) = false ∧ d * d ≤ 4294967296 := fun h => ⟨by simpa using fun h2 => hgo ⟨h, h2⟩, by
        have := Int.mul_le_mul h h (by omega) (by omega)
        simpa using this⟩
      by_cases hl : 4294967296 ≤ n
      · rw [if_pos hl] at hX
        simp only [Prod.mk.injEq] at hX
        obtain ⟨rfl, rfl⟩ := hX
        by_cases hbig : d ≤ 65536
        · obtain ⟨bb, hs1⟩ := key hbig
          clear key hgo
          go_wp2_with fail
          go_ret2
          exact ⟨_, rfl, World.ownsRow_nil _ _ _ _, (by repeat (first | exact Ext.refl _ | assumption | refine Ext.drew ?_ | refine Ext.drewN ?_ _ | refine Ext.alloc ?_ _ | refine Ext.trans ?_ (by assumption)))⟩
        · clear key hgo
          go_wp2_with fail
          go_ret2
          exact ⟨_, rfl, World.ownsRow_nil _ _ _ _, (by repeat (first | exact Ext.refl _ | assumption | refine Ext.drew ?_ | refine Ext.drewN ?_ _ | refine Ext.alloc ?_ _ | refine Ext.trans ?_ (by assumption)))⟩
      rw [if_neg hl] at hX
      by_cases h1 : 1 < n
      · rw [if_pos h1] at hX
        simp only [Prod.mk.injEq] at hX
        obtain ⟨rfl, rfl⟩ := hX
        by_cases hbig : d ≤ 65536
        · obtain ⟨bb, hs1⟩ := key hbig
          clear key hgo
          go_wp2_with (first | (at_builtin; refine wpList_append_own _ rfl _ _ 69 rfl w.heap.size 76 i0 (.agg #[.int .u64 0, .int .i64 0]) 2 16 Tryz.underlying69 hi hz0 hz1 hz2 rfl (by decide) _ _ _ rfl (hown.alloc _) ⟨wr.heap.size, 0, none⟩ 1 1 [.int .u64 n, .int .i64 1] rfl rfl (cells_new _ _ _ rfl) (by simp [Value.oneCell']) (by simp only [maxLen]; omega) (by omega) (by have := hw.size; simp; omega) ?_; intro v' w3 hown3 hgrow3 hnil3) | fail)
          go_ret2
          exact ⟨_, rfl, (by rw [flatP_snoc]; simpa using hown3), (hw.alloc _).grown hgrow3 (fun k e => (hout k e).1)⟩
        · clear key hgo
          go_wp2_with (first | (at_builtin; refine wpList_append_own _ rfl _ _ 69 rfl w.heap.size 76 i0 (.agg #[.int .u64 0, .int .i64 0]) 2 16 Tryz.underlying69 hi hz0 hz1 hz2 rfl (by decide) _ _ _ rfl (hown.alloc _) ⟨wr.heap.size, 0, none⟩ 1 1 [.int .u64 n, .int .i64 1] rfl rfl (cells_new _ _ _ rfl) (by simp [Value.oneCell']) (by simp only [maxLen]; omega) (by omega) (by have := hw.size; simp; omega) ?_; intro v' w3 hown3 hgrow3 hnil3) | fail)
          go_ret2
          exact ⟨_, rfl, (by rw [flatP_snoc]; simpa using hown3), (hw.alloc _).grown hgrow3 (fun k e => (hout k e).1)⟩
      · rw [if_neg h1] at hX
        simp only [Prod.mk.injEq] at hX
        obtain ⟨rfl, rfl⟩ := hX
        by_cases hbig : d ≤ 65536
        · obtain ⟨bb, hs1⟩ := key hbig
          clear key hgo
          go_wp2_with fail
          go_ret2
          exact ⟨_, rfl, hown, (by repeat (first | exact Ext.refl _ | assumption | refine Ext.drew ?_ | refine Ext.drewN ?_ _ | refine Ext.alloc ?_ _ | refine Ext.trans ?_ (by assumption)))⟩
        · clear key hgo
          go_wp2_with fail
          go_ret2
          exact ⟨_, rfl, hown, (by repeat (first | exact Ext.refl _ | assumption | refine Ext.drew ?_ | refine Ext.drewN ?_ _ | refine Ext.alloc ?_ _ | refine Ext.trans ?_ (by assumption)))⟩
end Go.Proofs.YthomeenmcajmdaaGreatDoor
