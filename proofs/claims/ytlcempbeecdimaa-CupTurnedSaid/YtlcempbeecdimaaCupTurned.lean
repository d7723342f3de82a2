/- CupTurned: whatever the number, the matrix and the cut, the law answers true, and nothing that was there has turned. No condition. -/
import Derived.Test.YtlcempbeecdimaaCupB4
import Derived.Test.YtlcempbeecdimaaOpenMat
import Derived.Test.YtlcempbeecdimaaPiece
import Derived.Test.YtlcempbeecdimaaCupB7
import Derived.Test.YtlcempbeecdimaaCupB5
import Derived.Deep.RegionHeld3
namespace Go.Proofs.Ytlcempbeecdimaa.cupTurned
open Go.ChangeShapes Go.WideShapes Go.ChangeAt Go.RowKit Go.Maps

set_option maxHeartbeats 1000000 in
theorem walk_skip (p r c : Int) (v : Value) (xs : List Int) (cut : Int) (w : World) (h0 : 0 ≤ p) (h1 : p ≤ 18446744073709551615) (hv : Ints .u64 w v xs) (hx : U64s xs) (h : smB p r c xs 150 = false) :
    Calls Try.prog 5 #[.int .u64 p, matV r c v, .int .u8 cut] w (Ret (.bool true) w) := by
  have C1 := hid fun (W : World) (hW : Ext w W) => (h ▸ small07 p r c v xs 150 W h0 h1 (hv.ext hW) hx : Calls Try.prog 13 #[.int .u64 p, matV r c v, .int .i64 (150 : Nat)] W (Ret (.bool false) W))
  obtain ⟨a, cap, rfl, k1, k2, k3⟩ := hv
  clear k3 hx h
  have HA := hid (Blk.new w 25 #[.int .i64 r, .int .i64 c, .slice a xs.length cap])
  have hW0 := hid ((Ext.refl w).alloc (.cells #[.int .i64 r, .int .i64 c, .slice a xs.length cap] 25))
  unfold matV at C1
  unfold matV
  go_enter Try.func5, Try.ntmps5
  go_wp2_with fail
  refine (awake07 _).mono ?_
  rintro _ w1 ⟨rfl, x1⟩
  obtain ⟨a0, a1, a2⟩ := (HA.out.ext x1).at3
  go_wp2_with fail
  refine (C1.out _ (hW0.out.trans x1)).mono ?_
  rintro _ w2 ⟨rfl, x2⟩
  go_wp2_with fail
  go_ret
  exact ⟨rfl, hW0.out.trans (x1.trans x2)⟩

theorem profZ_len {p : Int} {m n : Nat} {xs : List Int} (ok : MatOk p m n xs) (hf : Fld p) : (profZ p m n xs).length = (takeL p m n xs).U.length := by
  have := (takeL_ok (m := m) (n := n) (rightB_true ok.hp).1 hf ok.hx).lr
  simp [profZ, this]
set_option maxRecDepth 100000 in
set_option maxHeartbeats 4000000 in
theorem walk_yes (p : Int) (m n : Nat) (v : Value) (xs : List Int) (cut : Int) (w : World) (ok : MatOk p m n xs) (hf : Fld p) (hs : smB p m n xs 150 = true) (hv : Ints .u64 w v xs) (hcut : 0 ≤ cut ∧ cut ≤ 255) :
    Calls Try.prog 5 #[.int .u64 p, matV m n v, .int .u8 cut] w (Ret (.bool true) w) := by
  have hp2 := rightB_true ok.hp
  have okT : MatOk p n m (turnL m n xs) := ⟨ok.hp, turnL_rng hp2.1 ok.hx m n, ok.hn, ok.hm, turnL_len m n xs⟩
  have C1 := hid fun (W : World) (hW : Ext w W) => (hs ▸ small07 p m n v xs 150 W (by omega) (by omega) (hv.ext hW) ok.u64 : Calls Try.prog 13 #[.int .u64 p, matV m n v, .int .i64 (150 : Nat)] W (Ret (.bool true) W))
  have C2 := hid fun (W : World) (hW : Ext w W) => mxTurn_yes p m n v xs W ok (hv.ext hW)
  have C3 := hid fun (W : World) (hW : Ext w W) => cmRank p m n v xs W ok hf (hv.ext hW)
  have C4 := hid fun (W : World) (vt : Value) (ht : Ints .u64 W vt (turnL m n xs)) => rank_turn (m := m) (n := n) hp2.1 hf ok.hx ▸ cmRank p n m vt (turnL m n xs) W okT hf ht
  have C5 := hid fun (W : World) (hW : Ext w W) => cmProfile p m n v xs W ok hf (hv.ext hW)
  have hL := profZ_len ok hf
  obtain ⟨cu, rfl⟩ := Int.eq_ofNat_of_zero_le hcut.1
  obtain ⟨u, hu⟩ : ∃ u, cu % m = u := ⟨_, rfl⟩
  have hum : u < m := by rw [← hu]; exact Nat.mod_lt _ ok.hm.1
  have hu2 : (cu : Int) % (m : Int) = (u : Int) := by rw [← hu]; rfl
  have hu1 : (cu : Int).tmod (m : Int) = (u : Int) := by rw [Int.tmod_eq_emod_of_nonneg hcut.1]; exact hu2
  obtain ⟨k, hk⟩ : ∃ k, u + 1 = k := ⟨_, rfl⟩
  have hkm : k ≤ m := by omega
  have hk1 : 1 ≤ k := by omega
  have hle : k * n ≤ xs.length := by rw [ok.hl]; exact Nat.mul_le_mul_right _ hkm
  have okK : MatOk p k n (xs.take (k * n)) := ⟨ok.hp, ok.hx.take _, ⟨hk1, by have := ok.hm; omega⟩, ok.hn, by rw [List.length_take]; omega⟩
  have C6 := hid fun (W : World) (vk : Value) (h : Ints .u64 W vk (xs.take (k * n))) => cmProfile p k n vk (xs.take (k * n)) W okK hf h
  have hLK := profZ_len okK hf
  obtain ⟨t, ht1, ht2⟩ := profile_prefix (m := m) (n := n) hp2.1 hf ok.hx hkm
  have hpre : profZ p m n xs = profZ p k n (xs.take (k * n)) ++ t.map fun k : Nat => (k : Int) := by unfold profZ; rw [ht1, List.map_append]
  have Hdet := hid fun (hmn : m = n) => (show (∀ (W : World), Ext w W → Calls Try.prog 10 #[.int .u64 p, matV m n v] W (Ret (.tuple #[.int .u64 (detF m (atF m xs) % p), .int .i64 0]) W)) ∧ (∀ (W : World) (vt : Value), Ints .u64 W vt (turnL m n xs) → Calls Try.prog 10 #[.int .u64 p, matV n m vt] W (Ret (.tuple #[.int .u64 (detF m (atF m xs) % p), .int .i64 0]) W)) ∧ ((detF m (atF m xs) % p = 0) ↔ (takeL p m n xs).U.length ≠ m) from by
    subst hmn
    refine ⟨fun W hW => ?_, fun W vt h => ?_, det_rank hp2.1 hf ok.hx⟩
    · have h := cmDet p m m v xs W (by omega) (by omega) (hv.ext hW) ok.u64 fun _ => hf
      unfold detV detErr at h
      rwa [ok.b, decide_eq_true (rfl : (m : Int) = m), if_pos (by rfl), if_pos (by rfl), Int.toNat_natCast] at h
    · have h := cmDet p m m vt (turnL m m xs) W (by omega) (by omega) h okT.u64 fun _ => hf
      unfold detV detErr at h
      rwa [okT.b, decide_eq_true (rfl : (m : Int) = m), if_pos (by rfl), if_pos (by rfl), Int.toNat_natCast, det_turned hp2.1 hf ok.hx] at h)
  obtain ⟨A, hA⟩ : ∃ A, (takeL p m n xs).U.length = A := ⟨_, rfl⟩
  obtain ⟨D, hD⟩ : ∃ D, detF m (atF m xs) % p = D := ⟨_, rfl⟩
  obtain ⟨PL, hPL⟩ : ∃ PL, profZ p m n xs = PL := ⟨_, rfl⟩
  obtain ⟨PK, hPK⟩ : ∃ PK, profZ p k n (xs.take (k * n)) = PK := ⟨_, rfl⟩
  rw [hA] at C3 C4 hL
  rw [hA, hD] at Hdet
  rw [hPL] at C5 hL hpre
  rw [hPK] at C6 hLK hpre
  have hTT : ∀ i, i < t.length → (k : Int) ≤ (t.map fun k : Nat => (k : Int)).getD i 0 := fun i hi => by
    have := ht2 _ (List.getElem_mem hi)
    simp only [List.getD, List.getElem?_map, List.getElem?_eq_getElem hi, Option.map_some, Option.getD_some]
    omega
  obtain ⟨T, hT⟩ : ∃ T, (t.map fun k : Nat => (k : Int)) = T := ⟨_, rfl⟩
  have htl : T.length = t.length := by rw [← hT]; simp
  rw [hT] at hpre hTT
  have hAm : A ≤ m := by rw [← hA]; exact (takeL_ok (m := m) (n := n) hp2.1 hf ok.hx).le
  have Hpre := hid hpre; have HTT := hid hTT; have HL := hid hL; have Htl := hid htl
  have Hm := hid ok.hm; have Hn := hid ok.hn; have Hxl := hid ok.hl
  have HV := hid hv
  have Hu1 := hid hu1; have Hu2 := hid hu2; have Hk := hid hk
  clear hD hA hPL hPK hT ht1 ht2 hpre hTT hL htl hLK okT okK ok hs hf hu hu1 hu2 hk
  obtain ⟨a, cap, rfl, k1, k2, k3⟩ := hv
  clear k3
  have HA := hid (Blk.new w 25 #[.int .i64 (m : Int), .int .i64 (n : Int), .slice a xs.length cap])
  have hW0 := hid ((Ext.refl w).alloc (.cells #[.int .i64 (m : Int), .int .i64 (n : Int), .slice a xs.length cap] 25))
  unfold matV at C1 C3 C4 C5 C6 Hdet
  unfold RetN matV at C2
  unfold matV
  go_enter Try.func5, Try.ntmps5
  go_wp2_with fail
  refine (awake07 _).mono ?_
  rintro _ w1 ⟨rfl, xw1⟩
  obtain ⟨ha_0, ha_1, ha_2⟩ := (HA.out.ext xw1).at3
  go_wp2_with fail
  refine (C1.out _ (hW0.out.trans xw1)).mono ?_
  rintro _ w2 ⟨rfl, xw2⟩
  clear ha_0 ha_1 ha_2
  obtain ⟨ha_0, ha_1, ha_2⟩ := (HA.out.ext (xw1.trans xw2)).at3
  go_wp2_with fail
  refine (C2.out _ (hW0.out.trans (xw1.trans xw2))).mono ?_
  rintro _ w3 ⟨vT, rfl, iT, xw3⟩
  clear ha_0 ha_1 ha_2
  have IT := hid iT
  obtain ⟨aT, kT, rfl, _, _, kk⟩ := iT
  clear kk
  have z5 := (Ext.refl w3).alloc (.cells #[.int .i64 (n : Int), .int .i64 (m : Int), .slice aT (turnL m n xs).length kT] 25)
  have HT := hid (Blk.new w3 25 #[.int .i64 (n : Int), .int .i64 (m : Int), .slice aT (turnL m n xs).length kT])
  obtain ⟨ha_0, ha_1, ha_2⟩ := (HA.out.ext (xw1.trans (xw2.trans (xw3.trans z5)))).at3
  go_wp2_with fail
  refine (C3.out _ (hW0.out.trans (xw1.trans (xw2.trans (xw3.trans z5))))).mono ?_
  rintro _ w4 ⟨rfl, xw4⟩
  clear ha_0 ha_1 ha_2
  obtain ⟨ht_0, ht_1, ht_2⟩ := (HT.out.ext xw4).at3
  go_wp2_with fail
  refine (C4.out _ _ (IT.out.ext (z5.trans xw4))).mono ?_
  rintro _ w5 ⟨rfl, xw5⟩
  clear ht_0 ht_1 ht_2
  obtain ⟨ha_0, ha_1, ha_2⟩ := (HA.out.ext (xw1.trans (xw2.trans (xw3.trans (z5.trans (xw4.trans xw5)))))).at3
  go_wp2_with fail
  refine (C5.out _ (hW0.out.trans (xw1.trans (xw2.trans (xw3.trans (z5.trans (xw4.trans xw5))))))).mono ?_
  rintro _ w6 ⟨vP, rfl, iP, xw6⟩
  clear ha_0 ha_1 ha_2
  have IP := hid iP
  obtain ⟨aP, kP, rfl, _, _, kk⟩ := iP
  clear kk
  rw [HL.out]
  obtain ⟨ha_0, ha_1, ha_2⟩ := (HA.out.ext (xw1.trans (xw2.trans (xw3.trans (z5.trans (xw4.trans (xw5.trans xw6))))))).at3
  obtain ⟨Q, hQ⟩ : ∃ B, ((m : Int) == (n : Int)) = B := ⟨_, rfl⟩
  have HQ := hid hQ
  go_upto_if 77 with fail
  clear hQ ha_0 ha_1 ha_2
  go_cut [] from 78 to 109 (fun w' => Ext w6 w')
  case first =>
    cases Q with
    | true =>
      have hd := Hdet.out (by have := HQ.out; rw [beq_iff_eq] at this; omega)
      obtain ⟨d1, d2, d3⟩ := hd
      have D1 := hid d1; have D2 := hid d2
      have b1 : (D != 0) = ((A : Int) == (m : Int)) := by
        rw [Bool.eq_iff_iff, bne_iff_ne, beq_iff_eq]
        constructor
        · intro h
          by_cases e : A = m
          · omega
          · exact absurd (d3.2 e) h
        · intro h e
          exact d3.1 e (by omega)
      obtain ⟨Bq, hBq⟩ : ∃ B, ((A : Int) == (m : Int)) = B := ⟨_, rfl⟩
      rw [hBq] at b1
      have b3 : (Bq != Bq) = false := by cases Bq <;> rfl
      clear d1 d2 d3
      obtain ⟨ha_0, ha_1, ha_2⟩ := (HA.out.ext (xw1.trans (xw2.trans (xw3.trans (z5.trans (xw4.trans (xw5.trans xw6))))))).at3
      go_wp2_with fail
      refine (D1.out _ (hW0.out.trans (xw1.trans (xw2.trans (xw3.trans (z5.trans (xw4.trans (xw5.trans xw6)))))))).mono ?_
      rintro _ w7 ⟨rfl, xw7⟩
      clear ha_0 ha_1 ha_2
      obtain ⟨ht_0, ht_1, ht_2⟩ := (HT.out.ext (xw4.trans (xw5.trans (xw6.trans xw7)))).at3
      go_wp2_with fail
      refine (D2.out _ _ (IT.out.ext (z5.trans (xw4.trans (xw5.trans (xw6.trans xw7)))))).mono ?_
      rintro _ w8 ⟨rfl, xw8⟩
      clear ht_0 ht_1 ht_2
      obtain ⟨ha_0, ha_1, ha_2⟩ := (HA.out.ext (xw1.trans (xw2.trans (xw3.trans (z5.trans (xw4.trans (xw5.trans (xw6.trans (xw7.trans xw8))))))))).at3
      go_wp2_with fail
      go_meet
      exact xw7.trans xw8
    | false =>
      go_wp2_with fail
      go_meet
      exact Ext.refl _
  case rest =>
    have xc := hcut
    rename World => W
    clear HQ Hdet C1 C2 C3 C4 C5 IT HT
    have hu1 := Hu1.out; have hu2 := Hu2.out
    have hm0 : ((m : Int) == 0) = false := by rw [beq_eq_false_iff_ne]; have := Hm.out; omega
    obtain ⟨q, hq⟩ : ∃ q, k * n = q := ⟨_, rfl⟩
    have hqi : ((u : Int) + 1) * (n : Int) = (q : Int) := by rw [← hq, ← Hk.out]; push_cast; rfl
    have hqx : q ≤ xs.length := by rw [← hq]; exact hle
    have hqb : q ≤ 4096 := by have := Hxl.out; have h2 := Nat.mul_le_mul Hm.out.2 Hn.out.2; omega
    have hki : (k : Int) = (u : Int) + 1 := by have := Hk.out; omega
    rw [hq, hki] at C6
    have HKI := hid hki
    have hum64 : u < 64 := by have := Hm.out; omega
    clear hq hle hki
    obtain ⟨ha_0, ha_1, ha_2⟩ := (HA.out.ext (xw1.trans (xw2.trans (xw3.trans (z5.trans (xw4.trans (xw5.trans (xw6.trans xc)))))))).at3
    go_wp2_with fail
    have hwq : IntKind.i64.wrap (q : Int) = (q : Int) := IntWalk.i64_in _ (by omega)
    have hq0 : (0 : Int) ≤ (q : Int) := by omega
    have hqc : q ≤ cap := by omega
    clear hu1 hu2 hm0
    have hqc' : (q : Int) ≤ (cap : Int) := by omega
    have hTK := hid ((HV.out.ext ((hW0.out.trans (xw1.trans (xw2.trans (xw3.trans (z5.trans (xw4.trans (xw5.trans (xw6.trans xc)))))))).drew)).take' q hqx)
    have fs := hid (fun (V : World) (hV : Ext W V) => ((HA.out.ext (xw1.trans (xw2.trans (xw3.trans (z5.trans (xw4.trans (xw5.trans (xw6.trans xc)))))))).ext hV).at3)
    go_region_held3 (fun w' => w'.cell? ⟨w.heap.size, 0, none⟩ = some (.int .i64 (m : Int)) ∧ w'.cell? ⟨w.heap.size, 1, none⟩ = some (.int .i64 (n : Int)) ∧ w'.cell? ⟨w.heap.size, 2, none⟩ = some (.slice a xs.length cap)) (first | assumption | exact fs.out _ ((Ext.refl W).drew) | exact fs.out _ (((Ext.refl W).drew).trans x9))
      ((go_at_call 20; refine (C6.out _ _ hTK.out).mono ?_; rintro _ w9 ⟨vK, rfl, iK, x9⟩))
    clear hqi hwq hq0 hqc hqc' fs ha_0 ha_1 ha_2
    have y9 := (Ext.refl W).drew.trans x9
    have IK := hid iK
    obtain ⟨aK, kK, rfl, _, _, kk⟩ := iK
    clear kk
    have hAK : PK.length + T.length = A := by rw [← HL.out, Hpre.out, List.length_append]
    have hlt : ¬ A < PK.length := by omega
    have IPS := hid (show Ints .i64 w9 (.slice aP PK.length kP) PK from by
      have h := ((IP.out.ext xc).ext y9).take' PK.length (by rw [HL.out]; omega)
      rwa [Hpre.out, List.take_left'] at h; rfl)
    by_cases hE : PK.length = A
    · have b1 : ((PK.length : Int) == (A : Int)) = true := by rw [beq_iff_eq]; omega
      have hEA := hid hE
      have hle : PK.length ≤ kP := by have := HL.out; omega
      clear hE hAK
      go_wp2_with fail
      refine (r6Same_yes _ _ _ _ IK.out IPS.out).mono ?_
      rintro _ w10 ⟨rfl, x10⟩
      go_wp2_with fail
      go_ret
      exact ⟨rfl, (hW0.out.trans (xw1.trans (xw2.trans (xw3.trans (z5.trans (xw4.trans (xw5.trans (xw6.trans xc)))))))).trans (y9.trans x10)⟩
    · have b1 : ((PK.length : Int) == (A : Int)) = false := by rw [beq_eq_false_iff_ne]; omega
      have hT0 : 0 < T.length := by omega
      obtain ⟨_, _, e9, o1, o2, o3⟩ := (IP.out.ext xc)
      injection e9 with e91 e92 e93
      subst e91; subst e93
      obtain ⟨bP, oP, rfl, hbP, hcP⟩ := o3 (by rw [HL.out]; omega)
      have gP := hcP PK.length (by rw [HL.out]; omega)
      have hge := HTT.out 0 (by rw [← Htl.out]; exact hT0)
      have eP : PL.getD PK.length 0 = T.getD 0 0 := by rw [Hpre.out, List.getD, List.getElem?_append_right (Nat.le_refl _), Nat.sub_self]; rfl
      rw [eP] at gP
      obtain ⟨z, ez⟩ : ∃ z, T.getD 0 0 = z := ⟨_, rfl⟩
      rw [ez] at gP hge
      have GP := hid (fun (V : World) (hV : Ext W V) => (hV.cells _ _ hbP).trans gP)
      have hzu : decide ((u : Int) + 1 ≤ z) = true := decide_eq_true (by have := HKI.out; omega)
      have hle : PK.length ≤ kP := by have := HL.out; omega
      have hlA : PK.length < A := by omega
      clear hE hAK hcP o3 eP ez gP e92
      go_wp2_with fail
      refine (r6Same_yes _ _ _ _ IK.out IPS.out).mono ?_
      rintro _ w10 ⟨rfl, x10⟩
      have gz := GP.out w10 (y9.trans x10)
      go_wp2_with fail
      go_ret
      exact ⟨rfl, (hW0.out.trans (xw1.trans (xw2.trans (xw3.trans (z5.trans (xw4.trans (xw5.trans (xw6.trans xc)))))))).trans (y9.trans x10)⟩

/-- the law answers true -/
theorem walk (p r c : Int) (v : Value) (xs : List Int) (cut : Int) (w : World) (hp : (Lit.int .u64 p).wf = true) (_ : (Lit.int .i64 r).wf = true) (_ : (Lit.int .i64 c).wf = true) (hv : Ints .u64 w v xs) (hx : ∀ x ∈ xs, (Lit.int .u64 x).wf = true) (hc : (Lit.int .u8 cut).wf = true) :
    Calls Try.prog 5 #[.int .u64 p, .agg #[.int .i64 r, .int .i64 c, v], .int .u8 cut] w (Ret (.bool true) w) := by
  have hx' : U64s xs := fun x h => u64_wf (hx x h)
  cases h : smB p r c xs 150 with
  | false => exact walk_skip p r c v xs cut w (u64_wf hp).1 (u64_wf hp).2 hv hx' h
  | true =>
    have h2 := h
    unfold smB at h2
    simp only [Bool.and_eq_true] at h2
    obtain ⟨m, n, rfl, rfl, ok⟩ := MatOk.of hx' h2.2.2
    exact walk_yes p m n v xs cut w ok (taken_fld h2.2.1) h hv (u8_wf hc)

theorem own : ownKnob Try.prog.godebug = none := by kernel_rfl
set_option maxRecDepth 100000 in
theorem lifted (os : Os) (started : os.Started) (H : Type) (enc : TypeId × Value → H) :
    ReturnsInHanded {} Try.checked os 5 .any (Rows.cupTurnedSpec.pre6 enc Try.prog Try.f5 Rows.cupTurnedRow.domain false) (Rows.cupTurnedSpec.post enc Try.prog Try.f5 false true false false) := by
  refine returnsInHanded_of_change (C := Try.checked) own started (by kernel_rfl) Try.func5
    (ChangeSpec.witness6 (enc := enc) (C := Try.checked) false ⟨#[], #[.int .u64 0, .agg #[.int .i64 0, .int .i64 0, .slice none 0 0], .int .u8 0], []⟩ 8 (by kernel_rfl) (by kernel_rfl) (by kernel_rfl) (by kernel_rfl)) ?_
  intro W base args ds gs before hval0 hW _ _
  have hval : ∀ (j : Nat) t v, Try.f5.params[j]? = some t → args[j]? = some v → Value.okWide Try.prog W .any base t v := hval0
  have hW' := hW
  obtain ⟨p, q, hA0, hV, rfl, _, _⟩ := hW
  have hA : DataW.TrodAll enc Try.prog W 0 (fun _ => true) true Try.f5.params.toList args.toList ds p := hA0
  rw [Try.params5] at hA hval
  obtain ⟨v0, vs0, d0, ds0, p0, q0, hargs, rfl, rfl, h0, r0⟩ := trodAll_cons hA
  obtain ⟨v1, vs1, d1, ds1, p1, q1, rfl, rfl, rfl, h1, r1⟩ := trodAll_cons r0
  obtain ⟨v2, vs2, d2, ds2, p2, q2, rfl, rfl, rfl, h2, r2⟩ := trodAll_cons r1
  obtain ⟨rfl, rfl, rfl⟩ := trodAll_nil r2
  obtain rfl : args = #[v0, v1, v2] := by cases args; simp_all
  obtain ⟨rfl, rfl⟩ := trodVars_none hV
  obtain ⟨a0, rfl, rfl, rfl, w0⟩ := open_int Try.underlying22 (hval 0 22 v0 rfl rfl) h0
  obtain ⟨mr1, mc1, mu1, xs1, rfl, wr1, wc1, i1, w1⟩ := open_Mat (hval 1 25 v1 rfl rfl) h1
  obtain ⟨a2, rfl, rfl, rfl, w2⟩ := open_int Try.underlying5 (hval 2 5 v2 rfl rfl) h2
  refine (walk a0 mr1 mc1 mu1 xs1 a2 W w0 wr1 wc1 i1 w1 w2).mono fun e W' ⟨he, hg⟩ => ⟨_, he, ?_⟩
  exact law_post (by kernel_rfl) (by kernel_rfl) rfl Try.underlying4 rfl rfl hW' hg

/-- the statement -/
theorem proved : Rows.CupTurnedSaid :=
  OpenClaim.holds_of_wide 5 Try.f5 rfl rfl rfl rfl rfl rfl rfl ⟨rfl, rfl, rfl, rfl, rfl⟩ rfl rfl rfl rfl rfl (by kernel_rfl) Try.func5 (by kernel_rfl)
    (of_decide_eq_true (by kernel_rfl)) (by unfold Func.isWrapper; first | (rw [if_pos (by decide +kernel)]; kernel_rfl) | (rw [if_neg (by decide +kernel)]; exact ⟨rfl, rfl⟩))
    (fun os started H enc _ => lifted os started H enc)end Go.Proofs.Ytlcempbeecdimaa.cupTurned
