/- Package shape: does a row meet a column that was seen? are rows the rests that they must be? -/
import Derived.Test.YtnfnommiabalfaaBun18
import Derived.Test.YtnfnommiabalfaaBun16
import Derived.Maps.Own
import Derived.Maps.OwnSet
import Derived.Maps.Views
import Derived.Maps.RangeWalk
namespace Go.Proofs.Ytnfnommiabalfaa
open Go.RowKit Go.Maps

set_option maxHeartbeats 400000 in
theorem shNot0 (y : Int) (w : World) : Calls Try.prog 65 #[.int .u64 y] w fun e w' => e = .returned (.bool (y != 0)) ∧ w = w' := by
  go_enter Try.func65, Try.ntmps65
  go_wp2_with fail
  go_ret
  exact ⟨rfl, rfl⟩
set_option maxRecDepth 100000 in
set_option maxHeartbeats 1000000 in
theorem shIndex (v : Value) (xs : List Int) (w : World) (hv : Ints .u64 w v xs) (hx : U64s xs) (hl : xs.length ≤ 1000000) :
    Calls Try.prog 60 #[v, .func (.func 65) #[] #[]] w (Ret (.int .i64 (leadV xs)) w) := by
  have C1 := hid fun y W => shNot0 y W
  obtain ⟨L, hL⟩ : ∃ L, leadV xs = L := ⟨_, rfl⟩
  rw [hL]
  have HL := hid hL
  have Hx := hid hx
  obtain ⟨a, cap, rfl, k1, k2, k3⟩ := hv
  have K3 := hid k3
  obtain ⟨n, en⟩ : ∃ n, xs.length = n := ⟨_, rfl⟩
  have En := hid en
  rw [en] at k1 K3 hl ⊢
  clear k3 hL en hx
  go_enter Try.func60, Try.ntmps60
  go_wp2_with fail
  go_loopw [8] (fun iv wr => ∃ (j : Nat), iv = .int .i64 j ∧ j ≤ n ∧ Hid (∀ t, t < j → xs.getD t 0 = 0) ∧ Ext w wr) (fun iv _ => n - (intOf iv).toNat)
  case atStart => exact ⟨0, rfl, Nat.zero_le _, hid (fun t ht => absurd ht (Nat.not_lt_zero _)), Ext.refl _⟩
  case round =>
    obtain ⟨j, rfl, hj, hz, hw⟩ := hrel
    by_cases hlt : j < n
    · obtain ⟨b, off, rfl, hb, hc⟩ := K3.out (by omega)
      have g1 := (hw.cells _ _ hb).trans (hc j hlt)
      have ry := Hx.out.get (k := j) (by rw [En.out]; exact hlt)
      obtain ⟨y, ey⟩ : ∃ y, xs.getD j 0 = y := ⟨_, rfl⟩
      rw [ey] at g1 ry
      have Ey := hid ey
      clear ey hc
      by_cases c : y = 0
      · have e0 : ((0 : Int) != 0) = false := by decide
        have C2 := hid (C1.out 0)
        rw [e0] at C2
        subst c
        go_wp2_with (go_at_call 65; refine (C2.out _).mono ?_; rintro _ _ ⟨rfl, rfl⟩)
        go_roundw
        case rel =>
          refine ⟨j + 1, by go_num, by omega, hid (fun t ht => ?_), hw⟩
          by_cases e : t = j
          · rw [e, Ey.out]
          · exact hz.out t (by omega)
        case measure => simp [intOf]; omega
      · have e0 : (y != 0) = true := by simp [c]
        have C2 := hid (C1.out y)
        rw [e0] at C2
        have hLj := hid (show L = (j : Int) by
          have hjl : j < xs.length := by rw [En.out]; exact hlt
          have e1 : leadE xs = j := leadE_eq hjl (by rw [Ey.out]; exact c) hz.out
          rw [← HL.out]; unfold leadV
          rw [e1, if_pos hjl])
        go_wp2_with (go_at_call 65; refine (C2.out _).mono ?_; rintro _ _ ⟨rfl, rfl⟩)
        go_ret
        exact ⟨ret_int hLj.out.symm, hw⟩
    · obtain rfl : n = j := by omega
      have hLj := hid (show L = -1 by
        have e1 : leadE xs = xs.length := leadE_all fun t ht => hz.out t (by rw [← En.out]; exact ht)
        rw [← HL.out]; unfold leadV
        rw [e1, if_neg (Nat.lt_irrefl _)])
      go_wp2_with fail
      go_ret
      exact ⟨ret_int hLj.out.symm, hw⟩

theorem int_key : Keyed Try.prog 3 := int_keyed Try.underlying3
theorem int_keyOf {n : Int} (h : (Lit.int .i64 n).wf = true) : keyOf Try.prog 3 (.int .i64 n) = some (.int .i64 n) := keyOf_int_mk Try.underlying3 h
theorem mapI_ext {H : Type} {P : Program} {k : TypeId} {R : Value → Option (DataW H × List MemPlace)} {w w' : World} {b n : Nat} {D : DataW H} (h : w.ownsMap P k R b n D) (he : Ext w w') : w'.ownsMap P k R b n D := by
  have hlt := h.lt
  obtain ⟨es, clock, hb, r⟩ := h
  exact ⟨es, clock, (he.block b hlt).trans hb, r⟩
theorem hasI_put {H : Type} {D : DataW H} (hD : IsMap D) (a q : Int) (d : DataW H) : Maps.has (D.put (.int .i64 a) d) (.int .i64 q) = (decide (q = a) || Maps.has D (.int .i64 q)) := by
  by_cases h : q = a
  · subst h; rw [has_put_same hD (by simp [WideAt.IsKeyLit])]; simp
  · rw [has_put_other (by simpa using h)]; simp [h]

set_option maxRecDepth 100000 in
set_option maxHeartbeats 1000000 in
theorem shMeets (v : Value) (xs : List Int) (b nn : Nat) (D : DataW Unit) (w : World) (hv : Ints .u64 w v xs) (hown : w.ownsMap Try.prog 3 unitElem b nn D) (hin : ∀ x : Int, Maps.has D (.int .i64 x) = true → ∃ j : Nat, x = (j : Int) ∧ j < xs.length) :
    Calls Try.prog 66 #[v, .map (some b)] w fun e w' => ∃ B : Bool, e = .returned (.bool B) ∧ (B = true ↔ ∃ x : Int, Maps.has D (.int .i64 x) = true ∧ xs.getD x.toNat 0 ≠ 0) ∧ Ext w w' := by
  obtain ⟨a, cap, rfl, k1, k2, k3⟩ := hv
  have K3 := hid k3; have Hin := hid hin
  obtain ⟨n, en⟩ : ∃ n, xs.length = n := ⟨_, rfl⟩
  rw [en] at k1 K3 Hin ⊢
  clear k3 hin en
  go_enter Try.func66, Try.ntmps66
  go_wp2_with (first
    | (at_range; refine wpList_range_own _ rfl _ 93 rfl 3 95 int_key Try.underlying93 _ b nn _ rfl hown ?_; intro w0 hrg0 hg0 hs0)
    | fail)
  go_frame
  have hx0 : Ext w w0 := (Ext.refl w).grown hg0 (fun j e => by cases e)
  go_loopw [5] (fun _ wr => ∃ (left : Lit → Bool) (cnt : Nat), wr.ranges Try.prog 3 unitElem b w.heap.size nn D left cnt ∧ Hid (∀ x : Int, Maps.has D (.int .i64 x) = true → left (.int .i64 x) = false → xs.getD x.toNat 0 = 0) ∧ Ext w wr)
    (fun _ wr => wr.rangeLeft b w.heap.size)
  case atStart => exact ⟨_, _, hrg0, hid (fun x h1 h2 => by rw [h1] at h2; cases h2), hx0⟩
  case round =>
    obtain ⟨left, cnt, hrg, hz, hw⟩ := hrel
    go_wp2_with (first
      | (at_next; refine wpList_next_ranges _ rfl _ rfl 3 int_key unitElem (Value.int .i64) id (fun key kl hk => by obtain ⟨x, hx, _⟩ := keyOf_int_inv Try.underlying3 hk; exact ⟨x, hx⟩) (fun v _ _ => ⟨v, rfl⟩) b w.heap.size nn _ _ _ rfl hrg ?_ ?_)
      | fail)
    · intro _ hl0
      go_wp2_with fail
      go_ret
      refine ⟨false, rfl, ⟨fun h => Bool.noConfusion h, ?_⟩, hw⟩
      rintro ⟨x, h1, h2⟩
      exact absurd (hz.out x h1 (hl0 _)) h2
    · intro x c kl yd yp w1 cnt1 hkey hlk hval hat hrg1 hlt hg1 hs1 hen
      obtain ⟨x', ex, rfl, _⟩ := keyOf_int_inv Try.underlying3 hkey
      cases ex
      have hhas := hid (has_true_of_atKey hat)
      obtain ⟨j, rfl, hj⟩ := Hin.out x hhas.out
      have hw1 : Ext w w1 := hw.grown hg1 (fun j e => by cases e; exact Nat.le_refl _)
      obtain ⟨bb, off, rfl, hb, hc⟩ := K3.out (by omega)
      have g1 := (hw1.cells _ _ hb).trans (hc j hj)
      obtain ⟨z, ez⟩ : ∃ z, xs.getD j 0 = z := ⟨_, rfl⟩
      rw [ez] at g1
      have Ez := hid ez
      clear hc ez hkey hat hval
      by_cases c0 : z = 0
      · have b1 : (z != 0) = false := by simp [c0]
        have C0 := hid c0
        clear c0
        go_wp2_with fail
        go_roundw
        case rel => exact ⟨_, cnt1, hrg1, hid (fun q h1 h2 => by
          by_cases e : q = (j : Int)
          · rw [e, Int.toNat_natCast, Ez.out, C0.out]
          · refine hz.out q h1 ?_
            simp only [Bool.and_eq_false_iff, Bool.not_eq_false'] at h2
            rcases h2 with h2 | h2
            · exact h2
            · exact absurd (by simpa [Lit.sameKey] using h2) e), hw1⟩
        case measure => rw [hrg1.left_eq, hrg.left_eq]; exact hlt
      · have b1 : (z != 0) = true := by simp [c0]
        have C0 := hid c0
        clear c0
        go_wp2_with fail
        go_ret
        exact ⟨true, rfl, ⟨fun _ => ⟨(j : Int), hhas.out, by rw [Int.toNat_natCast, Ez.out]; exact C0.out⟩, fun _ => rfl⟩, hw1⟩

/-- is one of U's rows the rest that it must be? -/
def RestAt (K : List Int) (U : List (List Int)) (k : Nat) : Prop := leadE (U.getD k []) < (U.getD k []).length ∧ K.getD k 0 = (leadE (U.getD k []) : Int) ∧ ∀ j, j < k → (U.getD k []).getD (leadE (U.getD j [])) 0 = 0
noncomputable def restsB (K : List Int) (U : List (List Int)) : Bool := @decide (K.length = U.length ∧ ∀ k, k < U.length → RestAt K U k) (Classical.propDecidable _)
theorem restsB_iff {K : List Int} {U : List (List Int)} : restsB K U = true ↔ K.length = U.length ∧ ∀ k, k < U.length → RestAt K U k := by unfold restsB; exact @decide_eq_true_iff _ (Classical.propDecidable _)
theorem restsB_no {K : List Int} {U : List (List Int)} (h : ¬ (K.length = U.length ∧ ∀ k, k < U.length → RestAt K U k)) : restsB K U = false := by unfold restsB; exact @decide_eq_false _ (Classical.propDecidable _) h
theorem restsB_yes {K : List Int} {U : List (List Int)} (h : K.length = U.length ∧ ∀ k, k < U.length → RestAt K U k) : restsB K U = true := restsB_iff.2 h

set_option maxRecDepth 100000 in
set_option maxHeartbeats 2000000 in
theorem shRests (n : Nat) (R K : List Int) (C U : List (List Int)) (rv kv cv uv : Value) (w : World) (hc : ClmR w rv kv cv uv R K C U) (hn : n ≤ 1000000) (hul : U.length ≤ 1000000) (hU : ∀ l ∈ U, l.length = n ∧ U64s l) :
    Calls Try.prog 36 #[.agg #[rv, kv, cv, uv]] w (Ret (.bool (restsB K U)) w) := by
  have hmm := @run_makeMap Try.prog
  obtain ⟨Z, hZ⟩ : ∃ Z, restsB K U = Z := ⟨_, rfl⟩
  rw [hZ]
  have HZ := hid hZ
  have HU := hid hU
  obtain ⟨h1, h2, h3, h4⟩ := hc
  have CI := hid fun (k : Nat) (hk : k < U.length) (u : Value) (W : World) (hu : Ints .u64 W u (U.getD k [])) => shIndex u _ W hu (hU _ (getD_mem [] hk)).2 (by rw [(hU _ (getD_mem [] hk)).1]; exact hn)
  have CM := hid fun (k : Nat) (u : Value) (W : World) (b : Nat) (D : DataW Unit) (hu : Ints .u64 W u (U.getD k [])) (ho : W.ownsMap Try.prog 3 unitElem b k D) (hi : ∀ x : Int, Maps.has D (.int .i64 x) = true → ∃ j : Nat, x = (j : Int) ∧ j < (U.getD k []).length) => shMeets u _ b k D W hu ho hi
  obtain ⟨a1, c1, rfl, -, -, -⟩ := h1
  obtain ⟨a2, c2, rfl, l1, l2, l3⟩ := h2
  obtain ⟨a3, c3, rfl, -, -, -⟩ := h3
  obtain ⟨a4, c4, rfl, m1, m2, m3⟩ := h4
  have L3 := hid l3; have M3 := hid m3
  obtain ⟨r, er⟩ : ∃ r, U.length = r := ⟨_, rfl⟩
  have Er := hid er
  rw [er] at m1 M3 CI hul ⊢
  clear l3 m3 hZ hU er
  by_cases ek : K.length = r
  case neg =>
    have b1 : ((K.length : Int) != (r : Int)) = true := by simp; omega
    have N := hid (show Z = false by rw [← HZ.out]; exact restsB_no fun h => ek (by rw [h.1, Er.out]))
    have hb := (show Blk (w.alloc (.cells #[.slice a1 R.length c1, .slice a2 K.length c2, .slice a3 C.length c3, .slice a4 r c4] 29)) w.heap.size 29 #[.slice a1 R.length c1, .slice a2 K.length c2, .slice a3 C.length c3, .slice a4 r c4] from Blk.new w _ _)
    clear ek
    go_enter Try.func36, Try.ntmps36
    obtain ⟨b0, b1', b2, b3⟩ := hb.at4
    go_wp2_with fail
    go_ret
    exact ⟨ret_bool N.out.symm, (by repeat (first | exact Ext.refl _ | assumption | refine Ext.drew ?_ | refine Ext.drewN ?_ _ | refine Ext.alloc ?_ _ | refine Ext.trans ?_ (by assumption)))⟩
  have b1 : ((r : Int) != (r : Int)) = false := by simp
  have Ek := hid ek
  rw [ek] at L3 l1 ⊢
  have hb := hid (show Blk (w.alloc (.cells #[.slice a1 R.length c1, .slice a2 r c2, .slice a3 C.length c3, .slice a4 r c4] 29)) w.heap.size 29 #[.slice a1 R.length c1, .slice a2 r c2, .slice a3 C.length c3, .slice a4 r c4] from Blk.new w _ _)
  have hx := hid (show Ext w (w.alloc (.cells #[.slice a1 R.length c1, .slice a2 r c2, .slice a3 C.length c3, .slice a4 r c4] 29)) from (Ext.refl w).alloc _)
  have hx2 := hid (show Ext (w.alloc (.cells #[.slice a1 R.length c1, .slice a2 r c2, .slice a3 C.length c3, .slice a4 r c4] 29)) ((w.alloc (.cells #[.slice a1 R.length c1, .slice a2 r c2, .slice a3 C.length c3, .slice a4 r c4] 29)).alloc (.map #[] 0)) from (Ext.refl _).alloc _)
  have hsz := hid (show ((w.alloc (.cells #[.slice a1 R.length c1, .slice a2 r c2, .slice a3 C.length c3, .slice a4 r c4] 29))).heap.size = w.heap.size + 1 from alloc_size _ _)
  have hm0 := hid (World.ownsMap_made (w.alloc (.cells #[.slice a1 R.length c1, .slice a2 r c2, .slice a3 C.length c3, .slice a4 r c4] 29)) Try.prog 3 (unitElem (H := Unit)))
  clear ek
  go_enter Try.func36, Try.ntmps36
  obtain ⟨b0, b1', b2, b3⟩ := hb.out.at4
  go_wp2_with fail
  have Hsz1 := hid (show w.heap.size + 1 ≥ ((w.alloc (.cells #[.slice a1 R.length c1, .slice a2 r c2, .slice a3 C.length c3, .slice a4 r c4] 29))).heap.size by rw [hsz.out]; exact Nat.le_refl _)
  have hm1 := hid (show ((w.alloc (.cells #[.slice a1 R.length c1, .slice a2 r c2, .slice a3 C.length c3, .slice a4 r c4] 29)).alloc (.map #[] 0)).ownsMap Try.prog 3 (unitElem (H := Unit)) (w.heap.size + 1) 0 (.map []) by
    have := hm0.out
    rwa [hsz.out] at this)
  go_loopw [18] (fun iv wr => ∃ (k : Nat) (D : DataW Unit), iv = .int .i64 k ∧ k ≤ r ∧ Hid (wr.ownsMap Try.prog 3 unitElem (w.heap.size + 1) k D) ∧ Hid (∀ x : Int, Maps.has D (.int .i64 x) = true ↔ ∃ j, j < k ∧ x = (leadE (U.getD j []) : Int)) ∧ Hid (∀ j, j < k → RestAt K U j) ∧ Ext (w.alloc (.cells #[.slice a1 R.length c1, .slice a2 r c2, .slice a3 C.length c3, .slice a4 r c4] 29)) wr) (fun iv _ => r - (intOf iv).toNat)
  case atStart => exact ⟨0, _, rfl, Nat.zero_le _, hm1, hid (fun x => ⟨fun h => by simp [Maps.has] at h, fun ⟨j, hj, _⟩ => absurd hj (Nat.not_lt_zero _)⟩), hid (fun j hj => absurd hj (Nat.not_lt_zero _)), hx2.out⟩
  case round =>
    obtain ⟨k, D, rfl, hk, hown, hD, hall, hw⟩ := hrel
    clear b0 b1' b2 b3
    by_cases hlt : k < r
    · obtain ⟨bk, ok, rfl, hbk, hck⟩ := L3.out (by omega)
      obtain ⟨bu, ou, rfl, hbu, hcu⟩ := M3.out (by omega)
      obtain ⟨u, g1, iu⟩ := hcu k hlt
      have hxw : Ext w wr := hx.out.trans hw
      replace g1 := (hxw.cells _ _ hbu).trans g1
      replace iu := hid (iu.ext hxw)
      have gk := hid fun (W : World) (hW : Ext wr W) => ((hxw.trans hW).cells _ _ hbk).trans (hck k hlt)
      have hbx := hid fun (W : World) (hW : Ext wr W) => (hb.out.ext (hw.trans hW)).at4
      have CI2 := hid (CI.out k hlt u wr iu.out)
      have hrow := HU.out _ (getD_mem [] (show k < U.length by rw [Er.out]; exact hlt))
      have hlen := hrow.1
      have No := hid fun (h : ¬ RestAt K U k) => (show Z = false by rw [← HZ.out]; exact restsB_no fun h2 => h (h2.2 k (by rw [Er.out]; exact hlt)))
      have CM2 := hid fun (W : World) (hW : Ext wr W) => CM.out k u W (w.heap.size + 1) D (iu.out.ext hW) (mapI_ext hown.out hW)
      have Hrow := hid (hrow.1)
      obtain ⟨l, el⟩ : ∃ l, U.getD k [] = l := ⟨_, rfl⟩
      have El := hid el
      rw [el] at CI2 CM2 hlen
      have iu2 := iu.out
      obtain ⟨au, cu, rfl, -, -, -⟩ := iu2
      obtain ⟨y, ey⟩ : ∃ y, K.getD k 0 = y := ⟨_, rfl⟩
      rw [ey] at gk
      have Ey := hid ey
      obtain ⟨f, ef⟩ : ∃ f, leadE l = f := ⟨_, rfl⟩
      have Ef := hid ef
      have hfl := leadE_le l
      rw [ef, hlen] at hfl
      have Hlen := hid hlen
      clear hcu hck hrow el ey
      obtain ⟨b0, b1', b2, b3⟩ := hbx.out wr (Ext.refl _)
      by_cases hf : f < n
      · have elv : leadV l = (f : Int) := by unfold leadV; rw [ef, if_pos (by rw [hlen]; exact hf)]
        rw [elv] at CI2
        have bf : decide ((f : Int) < 0) = false := by simp
        clear elv ef hlen
        by_cases hy : y = (f : Int)
        · have by_ : ((f : Int) != y) = false := by simp [hy]
          have Hy := hid hy
          have hin := hid (show ∀ x : Int, Maps.has D (.int .i64 x) = true → ∃ j : Nat, x = (j : Int) ∧ j < l.length from fun x h => by
            obtain ⟨j, hj, rfl⟩ := (hD.out x).1 h
            have q := (hall.out j hj).1
            rw [(HU.out _ (getD_mem [] (show j < U.length by rw [Er.out]; omega))).1] at q
            exact ⟨_, rfl, by rw [Hlen.out]; exact q⟩)
          have hkey := hid (int_keyOf (n := (f : Int)) (by simp [Lit.wf, IntKind.min, IntKind.max, IntKind.bits, IntKind.signed]; omega))
          clear hy
          go_wp2_with (go_at_call 60; refine CI2.out.mono ?_; rintro _ w1 ⟨rfl, x1⟩; obtain ⟨d0, d1, d2, d3⟩ := hbx.out w1 x1; have gk1 := gk.out w1 x1)
          clear d0 d1 d2 d3
          refine (CM2.out w1 x1 hin.out).mono ?_
          rintro _ w2 ⟨B, rfl, hB, x2⟩
          have hw2 : Ext wr w2 := x1.trans x2
          have HB := hid hB
          clear hB
          cases B
          · have hown2 := mapI_ext hown.out hw2
            go_wp2_with (first | (at_mapUpdate; refine wpList_mapUpdate_own _ rfl _ _ _ 93 rfl 3 95 int_key Try.underlying93 (unitElem (H := Unit)) (w.heap.size + 1) k _ rfl hown2 (by unfold maxLen; omega) _ _ _ rfl rfl hkey.out _ [] unitElem_mk ?_; intro w3 hown3 hgrow3) | fail)
            go_roundw
            case rel => exact ⟨k + 1, _, by go_num, by omega, hid hown3, hid (fun x => by
              rw [hasI_put hown.out.isMap, Bool.or_eq_true, decide_eq_true_iff, hD.out]
              constructor
              · rintro (rfl | ⟨j, hj, rfl⟩)
                · exact ⟨k, by omega, by rw [El.out, Ef.out]⟩
                · exact ⟨j, by omega, rfl⟩
              · rintro ⟨j, hj, rfl⟩
                by_cases e : j = k
                · left; rw [e, El.out, Ef.out]
                · exact .inr ⟨j, by omega, rfl⟩), hid (fun j hj => by
              by_cases e : j = k
              · rw [e]
                refine ⟨by rw [El.out, Ef.out, Hlen.out]; exact hf, by rw [El.out, Ef.out, Ey.out]; exact Hy.out, fun i hi => ?_⟩
                rw [El.out]
                apply Classical.byContradiction
                intro h0
                have := HB.out.2 ⟨(leadE (U.getD i []) : Int), (hD.out _).2 ⟨i, by omega, rfl⟩, by rw [Int.toNat_natCast]; exact h0⟩
                cases this
              · exact hall.out j (by omega)), (hw.trans hw2).grown hgrow3 (fun j e => by cases e; exact Hsz1.out)⟩
            case measure => simp [intOf]; omega
          · have N := hid (No.out (fun h => by
              obtain ⟨x, q1, q2⟩ := HB.out.1 rfl
              obtain ⟨j, hj, rfl⟩ := (hD.out x).1 q1
              rw [Int.toNat_natCast, ← El.out] at q2
              exact q2 (h.2.2 j hj)))
            go_wp2_with fail
            go_ret
            exact ⟨ret_bool N.out.symm, hxw.trans hw2⟩
        · have by_ : ((f : Int) != y) = true := by simp; omega
          have N := hid (No.out (fun h => hy (by have := h.2.1; rw [El.out, Ef.out, Ey.out] at this; exact this)))
          clear hy
          go_wp2_with (go_at_call 60; refine CI2.out.mono ?_; rintro _ w1 ⟨rfl, x1⟩; obtain ⟨d0, d1, d2, d3⟩ := hbx.out w1 x1; have gk1 := gk.out w1 x1)
          go_ret
          exact ⟨ret_bool N.out.symm, hxw.trans x1⟩
      · have elv : leadV l = -1 := by unfold leadV; rw [ef, if_neg (by rw [hlen]; exact hf)]
        rw [elv] at CI2
        have N := hid (No.out (fun h => hf (by have := h.1; rw [El.out, Ef.out, Hlen.out] at this; exact this)))
        clear elv ef hlen hf
        go_wp2_with (go_at_call 60; refine CI2.out.mono ?_; rintro _ w1 ⟨rfl, x1⟩)
        go_ret
        exact ⟨ret_bool N.out.symm, hxw.trans x1⟩
    · obtain rfl : k = r := by omega
      have N := hid (show Z = true by rw [← HZ.out]; exact restsB_yes ⟨by rw [Ek.out, Er.out], fun j hj => hall.out j (by rw [← Er.out]; exact hj)⟩)
      go_wp2_with fail
      go_ret
      exact ⟨ret_bool N.out.symm, hx.out.trans hw⟩
end Go.Proofs.Ytnfnommiabalfaa
