/- WitnessSums: whatever the numbers, the matrix and the vectors, the law answers true, and nothing that was there has turned. No condition. -/
import Derived.Test.YtdfkojbfgodegaaBun13
import Derived.Test.YtdfkojbfgodegaaBun16
import Derived.Test.YtdfkojbfgodegaaBun05
import Derived.Test.YtdfkojbfgodegaaBun07
import Derived.Test.YtdfkojbfgodegaaOpenMat
import Derived.Test.YtdfkojbfgodegaaSized
import Derived.Test.YtdfkojbfgodegaaCm2
import Derived.Test.YtdfkojbfgodegaaStep
namespace Go.Proofs.Ytdfkojbfgodegaa.witnessSums
open Go.ChangeShapes Go.WideShapes Go.ChangeAt Go.RowKit Go.Maps

section
variable {p r c : Int} {xs x y b g : List Int}
theorem losA_add (hp : rightB p = true) (hu : U64s x) (h1 : losA p r c xs x = true) (h2 : losA p r c xs y = true) (hz : zeroB (addL p x y) = false) : losA p r c xs (addL p x y) = true := by
  unfold losA at h1 h2 ⊢
  rw [Bool.and_eq_true] at h1 h2 ⊢
  exact ⟨h1.1, losB_add hp hu h1.2 h2.2 hz⟩
theorem losA_scl (hp : rightB p = true) (hf : Fld p) (hu : U64s x) {k : Int} (hk : 0 ≤ k ∧ k < p) (h1 : losA p r c xs x = true) : losA p r c xs (sclL p k x) = decide (k ≠ 0) := by
  unfold losA at h1 ⊢
  rw [Bool.and_eq_true] at h1
  rw [h1.1, Bool.true_and]
  exact losB_scl hp hf hu hk h1.2
theorem sinA_add (hp : rightB p = true) (hu : U64s x) (h1 : sinA p r c xs x = true) (h2 : sinA p r c xs y = true) (hz : zeroB (addL p x y) = false) : sinA p r c xs (addL p x y) = true := by
  unfold sinA at h1 h2 ⊢
  rw [Bool.and_eq_true, Bool.and_eq_true] at h1 h2 ⊢
  exact ⟨h1.1, h1.2.1, sinB_add hp hu h1.2.2 h2.2.2 hz⟩
theorem solA_add (hp : rightB p = true) (hu : U64s x) (hb : U64s b) (h1 : solA p r c xs b x = true) (h2 : solA p r c xs g y = true) : solA p r c xs (addL p b g) (addL p x y) = true := by
  unfold solA at h1 h2 ⊢
  rw [Bool.and_eq_true] at h1 h2 ⊢
  exact ⟨h1.1, solB_add hp hu hb h1.2 h2.2⟩
end
set_option maxRecDepth 100000 in
set_option maxHeartbeats 4000000 in
theorem walk_skip (p r c n : Int) (v vb vg vx vy : Value) (xs b g x y : List Int) (w : World) (h0 : 0 ≤ p) (h1 : p ≤ 18446744073709551615) (hv : Ints .u64 w v xs) (hb : Ints .u64 w vb b) (hg : Ints .u64 w vg g) (hx : Ints .u64 w vx x) (hy : Ints .u64 w vy y) (ub : U64s b) (ug : U64s g) (ux : U64s x) (uy : U64s y) (h : (decide (xs.length ≤ 150) && (takenB p && (decide (n < p) && (decide (x.length = y.length) && (decide (b.length = g.length) && (hasB p x && (hasB p y && (hasB p b && hasB p g)))))))) = false) :
    Calls Try.prog 5 #[.int .u64 p, matV r c v, vb, vg, vx, vy, .int .u64 n] w (Ret (.bool true) w) := by
  have CI := hid fun (W : World) => prime_any p W h0
  have Cx := hid fun (W : World) (hW : Ext w W) => rHas p vx x W h0 h1 (hx.ext hW) ux
  have Cy := hid fun (W : World) (hW : Ext w W) => rHas p vy y W h0 h1 (hy.ext hW) uy
  have Cb := hid fun (W : World) (hW : Ext w W) => rHas p vb b W h0 h1 (hb.ext hW) ub
  have Cg := hid fun (W : World) (hW : Ext w W) => rHas p vg g W h0 h1 (hg.ext hW) ug
  obtain ⟨I, eI⟩ : ∃ B, takenB p = B := ⟨_, rfl⟩
  rw [eI] at CI h
  obtain ⟨Bx, eBx⟩ : ∃ B, hasB p x = B := ⟨_, rfl⟩
  rw [eBx] at Cx h
  obtain ⟨By, eBy⟩ : ∃ B, hasB p y = B := ⟨_, rfl⟩
  rw [eBy] at Cy h
  obtain ⟨Bb, eBb⟩ : ∃ B, hasB p b = B := ⟨_, rfl⟩
  rw [eBb] at Cb h
  obtain ⟨Bg, eBg⟩ : ∃ B, hasB p g = B := ⟨_, rfl⟩
  rw [eBg] at Cg h
  clear eI eBx eBy eBb eBg ub ug ux uy
  obtain ⟨a, cap, rfl, -, -, -⟩ := hv
  obtain ⟨ax, kx, rfl, -, -, -⟩ := hx
  obtain ⟨ay, ky, rfl, -, -, -⟩ := hy
  obtain ⟨ab, kb, rfl, -, -, -⟩ := hb
  obtain ⟨ag, kg, rfl, -, -, -⟩ := hg
  have HM := hid (Blk.new w 25 #[.int .i64 r, .int .i64 c, .slice a xs.length cap])
  have hW0 := hid ((Ext.refl w).alloc (.cells #[.int .i64 r, .int .i64 c, .slice a xs.length cap] 25))
  unfold matV
  obtain ⟨LX, eLX⟩ : ∃ k, x.length = k := ⟨_, rfl⟩
  obtain ⟨LY, eLY⟩ : ∃ k, y.length = k := ⟨_, rfl⟩
  obtain ⟨LB, eLB⟩ : ∃ k, b.length = k := ⟨_, rfl⟩
  obtain ⟨LG, eLG⟩ : ∃ k, g.length = k := ⟨_, rfl⟩
  obtain ⟨LM, eLM⟩ : ∃ k, xs.length = k := ⟨_, rfl⟩
  rw [eLX, eLY, eLB, eLG, eLM] at h
  rw [eLX] at Cx; rw [eLY] at Cy; rw [eLB] at Cb; rw [eLG] at Cg; rw [eLM] at HM hW0
  rw [eLX, eLY, eLB, eLG, eLM]
  clear eLX eLY eLB eLG eLM
  have Hh := hid h
  clear h
  go_enter Try.func5, Try.ntmps5
  go_wp2_with fail
  refine (awake14 _).mono ?_
  rintro _ w1 ⟨rfl, xw1⟩
  by_cases g1 : LM ≤ 150
  case neg =>
    obtain ⟨hm_0, hm_1, hm_2⟩ := (HM.out.ext xw1).at3
    go_wp2_with fail
    go_ret
    exact ⟨rfl, (hW0.out.trans xw1)⟩
  obtain ⟨hm_0, hm_1, hm_2⟩ := (HM.out.ext xw1).at3
  go_wp2_with fail
  refine (CI.out _).mono ?_
  rintro _ _ ⟨rfl, rfl⟩
  clear hm_0 hm_1 hm_2
  cases I
  · obtain ⟨hm_0, hm_1, hm_2⟩ := (HM.out.ext xw1).at3
    go_wp2_with fail
    go_ret
    exact ⟨rfl, (hW0.out.trans xw1)⟩
  by_cases g2 : n < p
  case neg =>
    obtain ⟨hm_0, hm_1, hm_2⟩ := (HM.out.ext xw1).at3
    go_wp2_with fail
    go_ret
    exact ⟨rfl, (hW0.out.trans xw1)⟩
  by_cases g3 : LX = LY
  case neg =>
    obtain ⟨hm_0, hm_1, hm_2⟩ := (HM.out.ext xw1).at3
    go_wp2_with fail
    go_ret
    exact ⟨rfl, (hW0.out.trans xw1)⟩
  subst g3
  by_cases g4 : LB = LG
  case neg =>
    obtain ⟨hm_0, hm_1, hm_2⟩ := (HM.out.ext xw1).at3
    go_wp2_with fail
    go_ret
    exact ⟨rfl, (hW0.out.trans xw1)⟩
  subst g4
  obtain ⟨hm_0, hm_1, hm_2⟩ := (HM.out.ext xw1).at3
  go_wp2_with fail
  refine (Cx.out _ (hW0.out.trans xw1)).mono ?_
  rintro _ _ ⟨rfl, rfl⟩
  clear hm_0 hm_1 hm_2
  cases Bx
  · obtain ⟨hm_0, hm_1, hm_2⟩ := (HM.out.ext xw1).at3
    go_wp2_with fail
    go_ret
    exact ⟨rfl, (hW0.out.trans xw1)⟩
  obtain ⟨hm_0, hm_1, hm_2⟩ := (HM.out.ext xw1).at3
  go_wp2_with fail
  refine (Cy.out _ (hW0.out.trans xw1)).mono ?_
  rintro _ _ ⟨rfl, rfl⟩
  clear hm_0 hm_1 hm_2
  cases By
  · obtain ⟨hm_0, hm_1, hm_2⟩ := (HM.out.ext xw1).at3
    go_wp2_with fail
    go_ret
    exact ⟨rfl, (hW0.out.trans xw1)⟩
  obtain ⟨hm_0, hm_1, hm_2⟩ := (HM.out.ext xw1).at3
  go_wp2_with fail
  refine (Cb.out _ (hW0.out.trans xw1)).mono ?_
  rintro _ _ ⟨rfl, rfl⟩
  clear hm_0 hm_1 hm_2
  cases Bb
  · obtain ⟨hm_0, hm_1, hm_2⟩ := (HM.out.ext xw1).at3
    go_wp2_with fail
    go_ret
    exact ⟨rfl, (hW0.out.trans xw1)⟩
  obtain ⟨hm_0, hm_1, hm_2⟩ := (HM.out.ext xw1).at3
  go_wp2_with fail
  refine (Cg.out _ (hW0.out.trans xw1)).mono ?_
  rintro _ _ ⟨rfl, rfl⟩
  clear hm_0 hm_1 hm_2
  cases Bg
  · obtain ⟨hm_0, hm_1, hm_2⟩ := (HM.out.ext xw1).at3
    go_wp2_with fail
    go_ret
    exact ⟨rfl, (hW0.out.trans xw1)⟩
  exact absurd Hh.out (by simp [g1, g2])
set_option maxRecDepth 100000 in
set_option maxHeartbeats 4000000 in
theorem walk_yes (p r c n : Int) (v vb vg vx vy : Value) (xs b g x y : List Int) (w : World) (L K : Nat) (hT : takenB p = true) (hp : rightB p = true) (hf : Fld p) (hlen : xs.length ≤ 150) (hn : 0 ≤ n ∧ n < p) (lx : x.length = L) (ly : y.length = L) (lb : b.length = K) (lg : g.length = K) (zL : L * 8 ≤ 140737488351232) (zK : K * 8 ≤ 140737488351232)
    (rx : Rng p x) (ry : Rng p y) (rb : Rng p b) (rg : Rng p g) (hv : Ints .u64 w v xs) (hb : Ints .u64 w vb b) (hg : Ints .u64 w vg g) (hx : Ints .u64 w vx x) (hy : Ints .u64 w vy y) (uv : U64s xs) (ub : U64s b) (ug : U64s g) (ux : U64s x) (uy : U64s y) :
    Calls Try.prog 5 #[.int .u64 p, matV r c v, vb, vg, vx, vy, .int .u64 n] w (Ret (.bool true) w) := by
  have hp2 := rightB_true hp
  obtain ⟨iu, hiu, hu0, hu1, hu2⟩ := info_parts info_u64p
  have CI := hid fun (W : World) => (hT ▸ prime_any p W (by omega) : Calls Try.prog 7 #[.int .u64 p] W fun e w' => e = .returned (.bool true) ∧ W = w')
  have Cx := hid fun (W : World) (hW : Ext w W) => (rx.has hp ▸ rHas p vx x W (by omega) (by omega) (hx.ext hW) ux : Calls Try.prog 9 #[.int .u64 p, vx] W fun e w' => e = .returned (.bool true) ∧ W = w')
  have Cy := hid fun (W : World) (hW : Ext w W) => (ry.has hp ▸ rHas p vy y W (by omega) (by omega) (hy.ext hW) uy : Calls Try.prog 9 #[.int .u64 p, vy] W fun e w' => e = .returned (.bool true) ∧ W = w')
  have Cb := hid fun (W : World) (hW : Ext w W) => (rb.has hp ▸ rHas p vb b W (by omega) (by omega) (hb.ext hW) ub : Calls Try.prog 9 #[.int .u64 p, vb] W fun e w' => e = .returned (.bool true) ∧ W = w')
  have Cg := hid fun (W : World) (hW : Ext w W) => (rg.has hp ▸ rHas p vg g W (by omega) (by omega) (hg.ext hW) ug : Calls Try.prog 9 #[.int .u64 p, vg] W fun e w' => e = .returned (.bool true) ∧ W = w')
  have us : U64s (addL p x y) := (addL_rng hp2.1).u64 hp2.2
  have ut : U64s (sclL p n x) := (sclL_rng hp2.1).u64 hp2.2
  have CLx := hid fun (W : World) (hW : Ext w W) => wtLoses p r c v vx xs x W (by omega) (by omega) (hv.ext hW) uv (hx.ext hW) ux
  have CLy := hid fun (W : World) (hW : Ext w W) => wtLoses p r c v vy xs y W (by omega) (by omega) (hv.ext hW) uv (hy.ext hW) uy
  have CLs := hid fun (W : World) (u : Value) (hW : Ext w W) (hu : Ints .u64 W u (addL p x y)) => wtLoses p r c v u xs _ W (by omega) (by omega) (hv.ext hW) uv hu us
  have CLt := hid fun (W : World) (u : Value) (hW : Ext w W) (hu : Ints .u64 W u (sclL p n x)) => wtLoses p r c v u xs _ W (by omega) (by omega) (hv.ext hW) uv hu ut
  have CSx := hid fun (W : World) (hW : Ext w W) => wtSingular p r c v vx xs x W (by omega) (by omega) (hv.ext hW) uv (hx.ext hW) ux
  have CSy := hid fun (W : World) (hW : Ext w W) => wtSingular p r c v vy xs y W (by omega) (by omega) (hv.ext hW) uv (hy.ext hW) uy
  have CSs := hid fun (W : World) (u : Value) (hW : Ext w W) (hu : Ints .u64 W u (addL p x y)) => wtSingular p r c v u xs _ W (by omega) (by omega) (hv.ext hW) uv hu us
  have CVx := hid fun (W : World) (hW : Ext w W) => wtSolves p r c v vb vx xs b x W (by omega) (by omega) (hv.ext hW) uv (hb.ext hW) (hx.ext hW) ux
  have CVy := hid fun (W : World) (hW : Ext w W) => wtSolves p r c v vg vy xs g y W (by omega) (by omega) (hv.ext hW) uv (hg.ext hW) (hy.ext hW) uy
  have CVs := hid fun (W : World) (u z : Value) (hW : Ext w W) (hu : Ints .u64 W u (addL p b g)) (hz : Ints .u64 W z (addL p x y)) => wtSolves p r c v u z xs _ _ W (by omega) (by omega) (hv.ext hW) uv hu hz us
  have CZ := hid fun (W : World) (u : Value) (hu : Ints .u64 W u (addL p x y)) => wtZero u _ W hu
  have F1 := hid fun (h : losA p r c xs x = true) => losA_scl hp hf ux hn h
  have F2 := hid fun (h1 : losA p r c xs x = true) (h2 : losA p r c xs y = true) (hz : zeroB (addL p x y) = false) => losA_add hp ux h1 h2 hz
  have F3 := hid fun (h1 : sinA p r c xs x = true) (h2 : sinA p r c xs y = true) (hz : zeroB (addL p x y) = false) => sinA_add hp ux h1 h2 hz
  have F4 := hid fun (h1 : solA p r c xs b x = true) (h2 : solA p r c xs g y = true) => solA_add hp ux ub h1 h2
  obtain ⟨F, hF⟩ : ∃ F : Nat → Int, (fun j => (x.getD j 0 + y.getD j 0) % p) = F := ⟨_, rfl⟩
  have HF := hid fun j => (congrFun hF j : (x.getD j 0 + y.getD j 0) % p = F j)
  have AF : addL p x y = tab L F := by rw [← hF, ← lx]; rfl
  obtain ⟨G, hG⟩ : ∃ F : Nat → Int, (fun j => x.getD j 0 * n % p) = F := ⟨_, rfl⟩
  have HG := hid fun j => (congrFun hG j : x.getD j 0 * n % p = G j)
  have AG : sclL p n x = tab L G := by rw [← hG, ← lx]; rfl
  obtain ⟨D, hD⟩ : ∃ F : Nat → Int, (fun j => (b.getD j 0 + g.getD j 0) % p) = F := ⟨_, rfl⟩
  have HD := hid fun j => (congrFun hD j : (b.getD j 0 + g.getD j 0) % p = D j)
  have AD : addL p b g = tab K D := by rw [← hD, ← lb]; rfl
  rw [AF] at CLs CSs CVs CZ F2 F3 F4
  rw [AG] at CLt F1
  rw [AD] at CVs F4
  obtain ⟨Lx, eLx⟩ : ∃ B, losA p r c xs x = B := ⟨_, rfl⟩
  rw [eLx] at CLx F1 F2
  clear eLx
  obtain ⟨Ly, eLy⟩ : ∃ B, losA p r c xs y = B := ⟨_, rfl⟩
  rw [eLy] at CLy F2
  clear eLy
  obtain ⟨Ls, eLs⟩ : ∃ B, losA p r c xs (tab L F) = B := ⟨_, rfl⟩
  rw [eLs] at CLs F2
  clear eLs
  obtain ⟨Lt, eLt⟩ : ∃ B, losA p r c xs (tab L G) = B := ⟨_, rfl⟩
  rw [eLt] at CLt F1
  clear eLt
  obtain ⟨Sx, eSx⟩ : ∃ B, sinA p r c xs x = B := ⟨_, rfl⟩
  rw [eSx] at CSx F3
  clear eSx
  obtain ⟨Sy, eSy⟩ : ∃ B, sinA p r c xs y = B := ⟨_, rfl⟩
  rw [eSy] at CSy F3
  clear eSy
  obtain ⟨Ss, eSs⟩ : ∃ B, sinA p r c xs (tab L F) = B := ⟨_, rfl⟩
  rw [eSs] at CSs F3
  clear eSs
  obtain ⟨Vx, eVx⟩ : ∃ B, solA p r c xs b x = B := ⟨_, rfl⟩
  rw [eVx] at CVx F4
  clear eVx
  obtain ⟨Vy, eVy⟩ : ∃ B, solA p r c xs g y = B := ⟨_, rfl⟩
  rw [eVy] at CVy F4
  clear eVy
  obtain ⟨Vs, eVs⟩ : ∃ B, solA p r c xs (tab K D) (tab L F) = B := ⟨_, rfl⟩
  rw [eVs] at CVs F4
  clear eVs
  obtain ⟨Z, eZ⟩ : ∃ B, zeroB (tab L F) = B := ⟨_, rfl⟩
  rw [eZ] at CZ F2 F3
  clear eZ
  have HP := hid hp
  have RX := hid rx; have RY := hid ry; have RB := hid rb; have RG := hid rg
  clear hT hf hF AF hG AG hD AD us ut rx ry rb rg uv ub ug ux uy
  obtain ⟨a, cap, rfl, -, -, -⟩ := hv
  obtain ⟨ax, kx, rfl, Kx⟩ := at0_of hx lx
  have Kx := hid Kx
  obtain ⟨ay, ky, rfl, Ky⟩ := at0_of hy ly
  have Ky := hid Ky
  obtain ⟨ab, kb, rfl, Kb⟩ := at0_of hb lb
  have Kb := hid Kb
  obtain ⟨ag, kg, rfl, Kg⟩ := at0_of hg lg
  have Kg := hid Kg
  clear hx hy hb hg lx ly lb lg
  unfold matV at CLx CLy CLs CLt CSx CSy CSs CVx CVy CVs
  unfold matV
  have HM := hid (Blk.new w 25 #[.int .i64 r, .int .i64 c, .slice a xs.length cap])
  have hW0 := hid ((Ext.refl w).alloc (.cells #[.int .i64 r, .int .i64 c, .slice a xs.length cap] 25))
  go_enter Try.func5, Try.ntmps5
  go_wp2_with fail
  refine (awake14 _).mono ?_
  rintro _ w1 ⟨rfl, xw1⟩
  obtain ⟨hm_0, hm_1, hm_2⟩ := (HM.out.ext xw1).at3
  go_wp2_with fail
  refine (CI.out _).mono ?_
  rintro _ _ ⟨rfl, rfl⟩
  go_wp2_with fail
  refine (Cx.out _ (hW0.out.trans xw1)).mono ?_
  rintro _ _ ⟨rfl, rfl⟩
  go_wp2_with fail
  refine (Cy.out _ (hW0.out.trans xw1)).mono ?_
  rintro _ _ ⟨rfl, rfl⟩
  go_wp2_with fail
  refine (Cb.out _ (hW0.out.trans xw1)).mono ?_
  rintro _ _ ⟨rfl, rfl⟩
  go_wp2_with fail
  refine (Cg.out _ (hW0.out.trans xw1)).mono ?_
  rintro _ _ ⟨rfl, rfl⟩
  have y1 := hid (hW0.out.trans xw1)
  have HM := hid (HM.out.ext xw1)
  clear CI Cx Cy Cb Cg hW0 xw1 hm_0 hm_1 hm_2
  go_wp2_with fail
  go_loopw [15, 16, 18] (fun sv tv iv wr => ∃ k : Nat, iv = .int .i64 k ∧ k ≤ L ∧ Hid (wr.ownsRow w1.heap.size 22 1 sv k ((tab k F).map (Value.int .u64))) ∧ Hid (wr.ownsRow w1.heap.size 22 1 tv k ((tab k G).map (Value.int .u64))) ∧ Hid (Ap sv tv) ∧ Hid (Ext w1 wr)) (fun _ _ iv _ => L - (intOf iv).toNat)
  case atStart => exact ⟨0, rfl, Nat.zero_le _, hid (World.ownsRow_nil _ _ _ _), hid (World.ownsRow_nil _ _ _ _), hid (.inl rfl), hid (Ext.refl _)⟩
  case round =>
    obtain ⟨k, rfl, hk, hs, ht, hap, hxw⟩ := hrel
    rename World => wr
    by_cases hlt : k < L
    · obtain ⟨bx, ox, rfl, hbx, kcx⟩ := Kx.out (by omega)
      obtain ⟨bY, oY, rfl, hby, kcy⟩ := Ky.out (by omega)
      have g1 := (Ext.cells (y1.out.trans hxw.out) _ _ hbx).trans (kcx k hlt)
      have g2 := (Ext.cells (y1.out.trans hxw.out) _ _ hby).trans (kcy k hlt)
      have r1 := RX.out.getD hp2.1 k
      have r2 := RY.out.getD hp2.1 k
      have gx0 := kcx k hlt
      have e1 := HF.out k
      have e2 := HG.out k
      obtain ⟨q, eq⟩ : ∃ t, x.getD k 0 = t := ⟨_, rfl⟩
      obtain ⟨q', eq'⟩ : ∃ t, y.getD k 0 = t := ⟨_, rfl⟩
      rw [eq] at g1 gx0 r1 e1 e2; rw [eq'] at g2 r2 e1
      obtain ⟨f, ef, f0, f1⟩ := name_mod (p := p) (q + q') hp2.1
      obtain ⟨h, eh, h0, h1⟩ := name_mod (p := p) (q * n) hp2.1
      rw [ef] at e1; rw [eh] at e2
      have hl1 := hid (show ((tab k F).map (Value.int .u64)) ++ [Value.int .u64 f] = (tab (k + 1) F).map (Value.int .u64) by rw [tab_succ, List.map_append, ← e1]; rfl)
      have hl2 := hid (show ((tab k G).map (Value.int .u64)) ++ [Value.int .u64 h] = (tab (k + 1) G).map (Value.int .u64) by rw [tab_succ, List.map_append, ← e2]; rfl)
      have Ef := hid ef; have Eh := hid eh
      clear eq eq' ef eh e1 e2 kcx kcy
      have hsz := hxw.out.size
      have hgx := hid (fun (W : World) (hW : Ext w1 W) => (Ext.cells (y1.out.trans hW) _ _ hbx).trans gx0)
      obtain ⟨sa, sc, rfl⟩ := own_slice1 hs.out
      obtain ⟨ta, tc, rfl⟩ := own_slice1 ht.out
      go_wp2_with fail
      go_region_law (first
        | (refine step_append_at _ rfl (.tmp 80) (.tmp 91) 23 rfl w1.heap.size 22 iu (.int .u64 0) 1 8 Try.underlying23 hiu hu0 hu1 hu2 rfl (by decide) (.slice sa k sc) k ((tab k F).map (Value.int .u64)) (by simp [Act.eval]) (ownsRow_ext hs.out (((Ext.refl wr).drew).alloc _)) ⟨wr.heap.size, 0, none⟩ 1 1 [.int .u64 f] (by simp [Act.eval]) rfl (cells_new _ _ _ (by simp)) (by simp [Value.oneCell']) (by simp only [maxLen]; omega) (by omega) (by simp at hsz ⊢; omega) ?_
           intro v7 w7 hown7 hgrow7 hat7
           rw [hl1.out] at hown7
           have Hown7 := hid hown7
           have Hgrow7 := hid hgrow7
           have Hat7 := hid hat7
           obtain ⟨a7, c7, rfl⟩ := own_slice1 hown7
           clear hown7 hgrow7 hat7)
        | (go_simp; go_at_call 23; refine (rAdd p q q' f _ HP.out r1.1 r1.2 r2.1 r2.2 Ef.out).mono ?_; rintro _ _ ⟨rfl, rfl⟩))
      all_goals
        have x7 : Ext w1 w7 := (hxw.out.trans (((Ext.refl wr).drew).alloc _)).grown Hgrow7.out (fun k e => (hs.out.lt k e).1)
        have ht7 := hid ((ownsRow_ext ht.out (((Ext.refl wr).drew).alloc _)).kept Hgrow7.out hap.out.symm)
        have ap7 := hid ((Ap.grown hap.out.symm (ownsRow_ext ht.out (((Ext.refl wr).drew).alloc _)) Hat7.out).symm)
        have g3 := hgx.out _ x7
        have hsz7 := x7.size
        clear g1 g2 gx0
        go_wp2_with (first
          | (go_at_call 24; refine (rMul p q n h _ HP.out r1.1 r1.2 hn.1 (by omega) Eh.out).mono ?_; rintro _ _ ⟨rfl, rfl⟩)
          | (at_builtin; refine wpList_append_own_at _ rfl _ _ 23 rfl w1.heap.size 22 iu (.int .u64 0) 1 8 Try.underlying23 hiu hu0 hu1 hu2 rfl (by decide) (.slice ta k tc) k _ rfl (ht7.out.alloc _) ⟨w7.heap.size, 0, none⟩ 1 1 [.int .u64 h] rfl rfl (cells_new _ _ _ rfl) (by simp [Value.oneCell']) (by simp only [maxLen]; omega) (by omega) (by simp; omega) ?_
             intro v8 w8 hown8 hgrow8 hnil8 hat8
             rw [hl2.out] at hown8
             have Hown8 := hid hown8
             have Hgrow8 := hid hgrow8
             have Hat8 := hid hat8
             obtain ⟨a8, c8, rfl⟩ := own_slice1 hown8
             clear hown8 hgrow8 hnil8 hat8))
        have x8 : Ext w1 w8 := (x7.alloc _).grown Hgrow8.out (fun k e => ((ht7.out.alloc (.cells #[.int .u64 h] 22)).lt k e).1)
        have hs8 := hid ((Hown7.out.alloc (.cells #[.int .u64 h] 22)).kept Hgrow8.out ap7.out)
        have ap8 := hid (Ap.grown ap7.out (Hown7.out.alloc (.cells #[.int .u64 h] 22)) Hat8.out)
        go_roundw
        case rel => exact ⟨k + 1, by go_num, by omega, hs8, Hown8, ap8, hid x8⟩
        case measure => simp [intOf]; omega
    · obtain rfl : L = k := by omega
      have IS := hid (own_ints hs.out)
      have IT := hid (own_ints ht.out)
      obtain ⟨sa, sc, rfl⟩ := own_slice1 hs.out
      obtain ⟨ta, tc, rfl⟩ := own_slice1 ht.out
      clear hs ht hap hlt hk Kx Ky RX RY HF HG
      have y2 := hid (y1.out.trans hxw.out)
      have HM := hid (HM.out.ext hxw.out)
      clear hxw y1
      go_wp2_with fail
      go_loopw [17, 19] (fun dv iv wi => ∃ k : Nat, iv = .int .i64 k ∧ k ≤ K ∧ Hid (wi.ownsRow wr.heap.size 22 1 dv k ((tab k D).map (Value.int .u64))) ∧ Hid (Ext wr wi)) (fun _ iv _ => K - (intOf iv).toNat)
      case atStart => exact ⟨0, rfl, Nat.zero_le _, hid (World.ownsRow_nil _ _ _ _), hid (Ext.refl _)⟩
      case round =>
        obtain ⟨k, rfl, hk, hs, hxw⟩ := hrel
        rename World => wi
        by_cases hlt : k < K
        · obtain ⟨bx, ox, rfl, hbx, kcx⟩ := Kb.out (by omega)
          obtain ⟨bY, oY, rfl, hby, kcy⟩ := Kg.out (by omega)
          have g1 := (Ext.cells (y2.out.trans hxw.out) _ _ hbx).trans (kcx k hlt)
          have g2 := (Ext.cells (y2.out.trans hxw.out) _ _ hby).trans (kcy k hlt)
          have r1 := RB.out.getD hp2.1 k
          have r2 := RG.out.getD hp2.1 k
          have e1 := HD.out k
          obtain ⟨q, eq⟩ : ∃ t, b.getD k 0 = t := ⟨_, rfl⟩
          obtain ⟨q', eq'⟩ : ∃ t, g.getD k 0 = t := ⟨_, rfl⟩
          rw [eq] at g1 r1 e1; rw [eq'] at g2 r2 e1
          obtain ⟨f, ef, f0, f1⟩ := name_mod (p := p) (q + q') hp2.1
          rw [ef] at e1
          have hl1 := hid (show ((tab k D).map (Value.int .u64)) ++ [Value.int .u64 f] = (tab (k + 1) D).map (Value.int .u64) by rw [tab_succ, List.map_append, ← e1]; rfl)
          have Ef := hid ef
          clear eq eq' ef e1 kcx kcy
          have hsz := hxw.out.size
          obtain ⟨da, dc, rfl⟩ := own_slice1 hs.out
          go_wp2_with fail
          go_region_law (first
            | (refine step_append_at _ rfl (.tmp 109) (.tmp 120) 23 rfl wr.heap.size 22 iu (.int .u64 0) 1 8 Try.underlying23 hiu hu0 hu1 hu2 rfl (by decide) (.slice da k dc) k ((tab k D).map (Value.int .u64)) (by simp [Act.eval]) (ownsRow_ext hs.out (((Ext.refl wi).drew).alloc _)) ⟨wi.heap.size, 0, none⟩ 1 1 [.int .u64 f] (by simp [Act.eval]) rfl (cells_new _ _ _ (by simp)) (by simp [Value.oneCell']) (by simp only [maxLen]; omega) (by omega) (by simp at hsz ⊢; omega) ?_
               intro v7 w7 hown7 hgrow7 hat7
               rw [hl1.out] at hown7
               have Hown7 := hid hown7
               have Hgrow7 := hid hgrow7
               obtain ⟨a7, c7, rfl⟩ := own_slice1 hown7
               clear hown7 hgrow7 hat7)
            | (go_simp; go_at_call 23; refine (rAdd p q q' f _ HP.out r1.1 r1.2 r2.1 r2.2 Ef.out).mono ?_; rintro _ _ ⟨rfl, rfl⟩))
          all_goals
            have x7 : Ext wr w7 := (hxw.out.trans (((Ext.refl wi).drew).alloc _)).grown Hgrow7.out (fun k e => (hs.out.lt k e).1)
            go_wp2_with fail
            go_roundw
            case rel => exact ⟨k + 1, by go_num, by omega, Hown7, hid x7⟩
            case measure => simp [intOf]; omega
        · obtain rfl : K = k := by omega
          have ID := hid (own_ints hs.out)
          obtain ⟨da, dc, rfl⟩ := own_slice1 hs.out
          clear hs hlt hk Kb Kg RB RG HD
          have y3 := hid (y2.out.trans hxw.out)
          have HM := hid (HM.out.ext hxw.out)
          have IS := hid (IS.out.ext hxw.out)
          have IT := hid (IT.out.ext hxw.out)
          clear hxw y2
          have y := y3; clear y3
          rename World => W0
          go_upto_region 15 with fail
          go_cut [134] from 122 to 134 (fun rv w' => rv = .bool false ∧ Ext W0 w')
          case first =>
            cases Lx with
            | false =>
              obtain ⟨hm_0, hm_1, hm_2⟩ := HM.out.at3
              go_wp2_with fail
              refine (CLx.out _ y.out).mono ?_
              rintro _ v0 ⟨rfl, xv0⟩
              clear hm_0 hm_1 hm_2
              obtain ⟨hm_0, hm_1, hm_2⟩ := (HM.out.ext xv0).at3
              go_wp2_with fail
              go_meet
              exact ⟨rfl, xv0⟩
            | true =>
              have f1 := F1.out (by trivial)
              clear F1 F2 F3 F4
              by_cases hn0 : n = 0
              case pos =>
                subst hn0
                obtain rfl : Lt = false := f1
                obtain ⟨hm_0, hm_1, hm_2⟩ := HM.out.at3
                go_wp2_with fail
                refine (CLx.out _ y.out).mono ?_
                rintro _ v0 ⟨rfl, xv0⟩
                clear hm_0 hm_1 hm_2
                obtain ⟨hm_0, hm_1, hm_2⟩ := (HM.out.ext xv0).at3
                go_wp2_with fail
                refine (CLt.out _ _ (y.out.trans xv0) (IT.out.ext xv0)).mono ?_
                rintro _ v1 ⟨rfl, xv1⟩
                clear hm_0 hm_1 hm_2
                obtain ⟨hm_0, hm_1, hm_2⟩ := (HM.out.ext (xv0.trans xv1)).at3
                go_wp2_with fail
                go_meet
                exact ⟨rfl, (xv0.trans xv1)⟩
              case neg =>
                have b1 : (n != 0) = true := by rw [bne_iff_ne]; exact hn0
                obtain rfl : Lt = true := f1.trans (decide_eq_true hn0)
                clear f1 hn0
                obtain ⟨hm_0, hm_1, hm_2⟩ := HM.out.at3
                go_wp2_with fail
                refine (CLx.out _ y.out).mono ?_
                rintro _ v0 ⟨rfl, xv0⟩
                clear hm_0 hm_1 hm_2
                obtain ⟨hm_0, hm_1, hm_2⟩ := (HM.out.ext xv0).at3
                go_wp2_with fail
                refine (CLt.out _ _ (y.out.trans xv0) (IT.out.ext xv0)).mono ?_
                rintro _ v1 ⟨rfl, xv1⟩
                clear hm_0 hm_1 hm_2
                obtain ⟨hm_0, hm_1, hm_2⟩ := (HM.out.ext (xv0.trans xv1)).at3
                go_wp2_with fail
                go_meet
                exact ⟨rfl, (xv0.trans xv1)⟩
          case rest =>
            obtain ⟨rfl, xc⟩ := hcut
            rename World => W1
            have y := hid (y.out.trans xc)
            have HM := hid (HM.out.ext xc)
            have IS := hid (IS.out.ext xc)
            have IT := hid (IT.out.ext xc)
            have ID := hid (ID.out.ext xc)
            clear xc
            skip
            go_upto_region 17 with fail
            go_cut [156] from 135 to 156 (fun rv w' => rv = .bool false ∧ Ext W1 w')
            case first =>
              cases Lx with
              | false =>
                obtain ⟨hm_0, hm_1, hm_2⟩ := HM.out.at3
                go_wp2_with fail
                refine (CLx.out _ y.out).mono ?_
                rintro _ v0 ⟨rfl, xv0⟩
                clear hm_0 hm_1 hm_2
                obtain ⟨hm_0, hm_1, hm_2⟩ := (HM.out.ext xv0).at3
                go_wp2_with fail
                go_meet
                exact ⟨rfl, xv0⟩
              | true =>
                cases Ly with
                | false =>
                  obtain ⟨hm_0, hm_1, hm_2⟩ := HM.out.at3
                  go_wp2_with fail
                  refine (CLx.out _ y.out).mono ?_
                  rintro _ v0 ⟨rfl, xv0⟩
                  clear hm_0 hm_1 hm_2
                  obtain ⟨hm_0, hm_1, hm_2⟩ := (HM.out.ext xv0).at3
                  go_wp2_with fail
                  refine (CLy.out _ (y.out.trans xv0)).mono ?_
                  rintro _ v1 ⟨rfl, xv1⟩
                  clear hm_0 hm_1 hm_2
                  obtain ⟨hm_0, hm_1, hm_2⟩ := (HM.out.ext (xv0.trans xv1)).at3
                  go_wp2_with fail
                  go_meet
                  exact ⟨rfl, (xv0.trans xv1)⟩
                | true =>
                  cases Z with
                  | false =>
                    obtain rfl : Ls = true := F2.out (by trivial) (by trivial) (by trivial)
                    clear F1 F2 F3 F4
                    obtain ⟨hm_0, hm_1, hm_2⟩ := HM.out.at3
                    go_wp2_with fail
                    refine (CLx.out _ y.out).mono ?_
                    rintro _ v0 ⟨rfl, xv0⟩
                    clear hm_0 hm_1 hm_2
                    obtain ⟨hm_0, hm_1, hm_2⟩ := (HM.out.ext xv0).at3
                    go_wp2_with fail
                    refine (CLy.out _ (y.out.trans xv0)).mono ?_
                    rintro _ v1 ⟨rfl, xv1⟩
                    clear hm_0 hm_1 hm_2
                    obtain ⟨hm_0, hm_1, hm_2⟩ := (HM.out.ext (xv0.trans xv1)).at3
                    go_wp2_with fail
                    refine (CZ.out _ _ (IS.out.ext (xv0.trans xv1))).mono ?_
                    rintro _ v2 ⟨rfl, xv2⟩
                    clear hm_0 hm_1 hm_2
                    obtain ⟨hm_0, hm_1, hm_2⟩ := (HM.out.ext (xv0.trans (xv1.trans xv2))).at3
                    go_wp2_with fail
                    refine (CLs.out _ _ (y.out.trans (xv0.trans (xv1.trans xv2))) (IS.out.ext (xv0.trans (xv1.trans xv2)))).mono ?_
                    rintro _ v3 ⟨rfl, xv3⟩
                    clear hm_0 hm_1 hm_2
                    obtain ⟨hm_0, hm_1, hm_2⟩ := (HM.out.ext (xv0.trans (xv1.trans (xv2.trans xv3)))).at3
                    go_wp2_with fail
                    go_meet
                    exact ⟨rfl, (xv0.trans (xv1.trans (xv2.trans xv3)))⟩
                  | true =>
                    obtain ⟨hm_0, hm_1, hm_2⟩ := HM.out.at3
                    go_wp2_with fail
                    refine (CLx.out _ y.out).mono ?_
                    rintro _ v0 ⟨rfl, xv0⟩
                    clear hm_0 hm_1 hm_2
                    obtain ⟨hm_0, hm_1, hm_2⟩ := (HM.out.ext xv0).at3
                    go_wp2_with fail
                    refine (CLy.out _ (y.out.trans xv0)).mono ?_
                    rintro _ v1 ⟨rfl, xv1⟩
                    clear hm_0 hm_1 hm_2
                    obtain ⟨hm_0, hm_1, hm_2⟩ := (HM.out.ext (xv0.trans xv1)).at3
                    go_wp2_with fail
                    refine (CZ.out _ _ (IS.out.ext (xv0.trans xv1))).mono ?_
                    rintro _ v2 ⟨rfl, xv2⟩
                    clear hm_0 hm_1 hm_2
                    obtain ⟨hm_0, hm_1, hm_2⟩ := (HM.out.ext (xv0.trans (xv1.trans xv2))).at3
                    go_wp2_with fail
                    go_meet
                    exact ⟨rfl, (xv0.trans (xv1.trans xv2))⟩
            case rest =>
              obtain ⟨rfl, xc⟩ := hcut
              rename World => W2
              have y := hid (y.out.trans xc)
              have HM := hid (HM.out.ext xc)
              have IS := hid (IS.out.ext xc)
              have IT := hid (IT.out.ext xc)
              have ID := hid (ID.out.ext xc)
              clear xc
              go_upto_region 19 with fail
              go_cut [178] from 157 to 178 (fun rv w' => rv = .bool false ∧ Ext W2 w')
              case first =>
                cases Sx with
                | false =>
                  obtain ⟨hm_0, hm_1, hm_2⟩ := HM.out.at3
                  go_wp2_with fail
                  refine (CSx.out _ y.out).mono ?_
                  rintro _ v0 ⟨rfl, xv0⟩
                  clear hm_0 hm_1 hm_2
                  obtain ⟨hm_0, hm_1, hm_2⟩ := (HM.out.ext xv0).at3
                  go_wp2_with fail
                  go_meet
                  exact ⟨rfl, xv0⟩
                | true =>
                  cases Sy with
                  | false =>
                    obtain ⟨hm_0, hm_1, hm_2⟩ := HM.out.at3
                    go_wp2_with fail
                    refine (CSx.out _ y.out).mono ?_
                    rintro _ v0 ⟨rfl, xv0⟩
                    clear hm_0 hm_1 hm_2
                    obtain ⟨hm_0, hm_1, hm_2⟩ := (HM.out.ext xv0).at3
                    go_wp2_with fail
                    refine (CSy.out _ (y.out.trans xv0)).mono ?_
                    rintro _ v1 ⟨rfl, xv1⟩
                    clear hm_0 hm_1 hm_2
                    obtain ⟨hm_0, hm_1, hm_2⟩ := (HM.out.ext (xv0.trans xv1)).at3
                    go_wp2_with fail
                    go_meet
                    exact ⟨rfl, (xv0.trans xv1)⟩
                  | true =>
                    cases Z with
                    | false =>
                      obtain rfl : Ss = true := F3.out (by trivial) (by trivial) (by trivial)
                      clear F1 F2 F3 F4
                      obtain ⟨hm_0, hm_1, hm_2⟩ := HM.out.at3
                      go_wp2_with fail
                      refine (CSx.out _ y.out).mono ?_
                      rintro _ v0 ⟨rfl, xv0⟩
                      clear hm_0 hm_1 hm_2
                      obtain ⟨hm_0, hm_1, hm_2⟩ := (HM.out.ext xv0).at3
                      go_wp2_with fail
                      refine (CSy.out _ (y.out.trans xv0)).mono ?_
                      rintro _ v1 ⟨rfl, xv1⟩
                      clear hm_0 hm_1 hm_2
                      obtain ⟨hm_0, hm_1, hm_2⟩ := (HM.out.ext (xv0.trans xv1)).at3
                      go_wp2_with fail
                      refine (CZ.out _ _ (IS.out.ext (xv0.trans xv1))).mono ?_
                      rintro _ v2 ⟨rfl, xv2⟩
                      clear hm_0 hm_1 hm_2
                      obtain ⟨hm_0, hm_1, hm_2⟩ := (HM.out.ext (xv0.trans (xv1.trans xv2))).at3
                      go_wp2_with fail
                      refine (CSs.out _ _ (y.out.trans (xv0.trans (xv1.trans xv2))) (IS.out.ext (xv0.trans (xv1.trans xv2)))).mono ?_
                      rintro _ v3 ⟨rfl, xv3⟩
                      clear hm_0 hm_1 hm_2
                      obtain ⟨hm_0, hm_1, hm_2⟩ := (HM.out.ext (xv0.trans (xv1.trans (xv2.trans xv3)))).at3
                      go_wp2_with fail
                      go_meet
                      exact ⟨rfl, (xv0.trans (xv1.trans (xv2.trans xv3)))⟩
                    | true =>
                      obtain ⟨hm_0, hm_1, hm_2⟩ := HM.out.at3
                      go_wp2_with fail
                      refine (CSx.out _ y.out).mono ?_
                      rintro _ v0 ⟨rfl, xv0⟩
                      clear hm_0 hm_1 hm_2
                      obtain ⟨hm_0, hm_1, hm_2⟩ := (HM.out.ext xv0).at3
                      go_wp2_with fail
                      refine (CSy.out _ (y.out.trans xv0)).mono ?_
                      rintro _ v1 ⟨rfl, xv1⟩
                      clear hm_0 hm_1 hm_2
                      obtain ⟨hm_0, hm_1, hm_2⟩ := (HM.out.ext (xv0.trans xv1)).at3
                      go_wp2_with fail
                      refine (CZ.out _ _ (IS.out.ext (xv0.trans xv1))).mono ?_
                      rintro _ v2 ⟨rfl, xv2⟩
                      clear hm_0 hm_1 hm_2
                      obtain ⟨hm_0, hm_1, hm_2⟩ := (HM.out.ext (xv0.trans (xv1.trans xv2))).at3
                      go_wp2_with fail
                      go_meet
                      exact ⟨rfl, (xv0.trans (xv1.trans xv2))⟩
              case rest =>
                obtain ⟨rfl, xc⟩ := hcut
                rename World => W3
                have y := hid (y.out.trans xc)
                have HM := hid (HM.out.ext xc)
                have IS := hid (IS.out.ext xc)
                have IT := hid (IT.out.ext xc)
                have ID := hid (ID.out.ext xc)
                clear xc
                cases Vx with
                | false =>
                  obtain ⟨hm_0, hm_1, hm_2⟩ := HM.out.at3
                  go_wp2_with fail
                  refine (CVx.out _ y.out).mono ?_
                  rintro _ v0 ⟨rfl, xv0⟩
                  clear hm_0 hm_1 hm_2
                  obtain ⟨hm_0, hm_1, hm_2⟩ := (HM.out.ext xv0).at3
                  go_wp2_with fail
                  go_ret
                  exact ⟨rfl, y.out.trans xv0⟩
                | true =>
                  cases Vy with
                  | false =>
                    obtain ⟨hm_0, hm_1, hm_2⟩ := HM.out.at3
                    go_wp2_with fail
                    refine (CVx.out _ y.out).mono ?_
                    rintro _ v0 ⟨rfl, xv0⟩
                    clear hm_0 hm_1 hm_2
                    obtain ⟨hm_0, hm_1, hm_2⟩ := (HM.out.ext xv0).at3
                    go_wp2_with fail
                    refine (CVy.out _ (y.out.trans xv0)).mono ?_
                    rintro _ v1 ⟨rfl, xv1⟩
                    clear hm_0 hm_1 hm_2
                    obtain ⟨hm_0, hm_1, hm_2⟩ := (HM.out.ext (xv0.trans xv1)).at3
                    go_wp2_with fail
                    go_ret
                    exact ⟨rfl, y.out.trans (xv0.trans xv1)⟩
                  | true =>
                    obtain rfl : Vs = true := F4.out (by trivial) (by trivial)
                    clear F1 F2 F3 F4
                    obtain ⟨hm_0, hm_1, hm_2⟩ := HM.out.at3
                    go_wp2_with fail
                    refine (CVx.out _ y.out).mono ?_
                    rintro _ v0 ⟨rfl, xv0⟩
                    clear hm_0 hm_1 hm_2
                    obtain ⟨hm_0, hm_1, hm_2⟩ := (HM.out.ext xv0).at3
                    go_wp2_with fail
                    refine (CVy.out _ (y.out.trans xv0)).mono ?_
                    rintro _ v1 ⟨rfl, xv1⟩
                    clear hm_0 hm_1 hm_2
                    obtain ⟨hm_0, hm_1, hm_2⟩ := (HM.out.ext (xv0.trans xv1)).at3
                    go_wp2_with fail
                    refine (CVs.out _ _ _ (y.out.trans (xv0.trans xv1)) (ID.out.ext (xv0.trans xv1)) (IS.out.ext (xv0.trans xv1))).mono ?_
                    rintro _ v2 ⟨rfl, xv2⟩
                    clear hm_0 hm_1 hm_2
                    obtain ⟨hm_0, hm_1, hm_2⟩ := (HM.out.ext (xv0.trans (xv1.trans xv2))).at3
                    go_wp2_with fail
                    go_ret
                    exact ⟨rfl, y.out.trans (xv0.trans (xv1.trans xv2))⟩

theorem walk (p r c : Int) (v : Value) (xs : List Int) (vb : Value) (b : List Int) (vg : Value) (g : List Int) (vx : Value) (x : List Int) (vy : Value) (y : List Int) (n : Int) (w : World) (hp : (Lit.int .u64 p).wf = true)
    (_ : (Lit.int .i64 r).wf = true) (_ : (Lit.int .i64 c).wf = true) (hv : Ints .u64 w v xs) (uv : ∀ x ∈ xs, (Lit.int .u64 x).wf = true) (hb : Ints .u64 w vb b) (ub : ∀ x ∈ b, (Lit.int .u64 x).wf = true) (zb : b.length * 8 ≤ 140737488351232) (hg : Ints .u64 w vg g) (ug : ∀ x ∈ g, (Lit.int .u64 x).wf = true) (_ : g.length * 8 ≤ 140737488351232)
    (hx : Ints .u64 w vx x) (ux : ∀ z ∈ x, (Lit.int .u64 z).wf = true) (zx : x.length * 8 ≤ 140737488351232) (hy : Ints .u64 w vy y) (uy : ∀ x ∈ y, (Lit.int .u64 x).wf = true) (_ : y.length * 8 ≤ 140737488351232) (hn : (Lit.int .u64 n).wf = true) :
    Calls Try.prog 5 #[.int .u64 p, .agg #[.int .i64 r, .int .i64 c, v], vb, vg, vx, vy, .int .u64 n] w (Ret (.bool true) w) := by
  have hp' := u64_wf hp
  have hn' := u64_wf hn
  have uv' : U64s xs := fun x h => by have := u64_wf (uv x h); omega
  have ub' : U64s b := fun x h => by have := u64_wf (ub x h); omega
  have ug' : U64s g := fun x h => by have := u64_wf (ug x h); omega
  have ux' : U64s x := fun x h => by have := u64_wf (ux x h); omega
  have uy' : U64s y := fun x h => by have := u64_wf (uy x h); omega
  cases h : (decide (xs.length ≤ 150) && (takenB p && (decide (n < p) && (decide (x.length = y.length) && (decide (b.length = g.length) && (hasB p x && (hasB p y && (hasB p b && hasB p g))))))))
  · exact walk_skip p r c n v vb vg vx vy xs b g x y w (by omega) (by omega) hv hb hg hx hy ub' ug' ux' uy' h
  · simp only [Bool.and_eq_true, decide_eq_true_eq] at h
    obtain ⟨h1, h2, h3, h4, h5, h6, h7, h8, h9⟩ := h
    have rng : ∀ {l : List Int}, U64s l → hasB p l = true → Rng p l := fun hu hh x hx => ⟨(hu x hx).1, (hasB_true hh).2 x hx⟩
    exact walk_yes p r c n v vb vg vx vy xs b g x y w x.length b.length h2 (hasB_true h6).1 (taken_fld h2) h1 ⟨by omega, h3⟩ rfl h4.symm rfl h5.symm zx zb (rng ux' h6) (rng uy' h7) (rng ub' h8) (rng ug' h9) hv hb hg hx hy uv' ub' ug' ux' uy'

theorem own : ownKnob Try.prog.godebug = none := by kernel_rfl
set_option maxRecDepth 100000 in
theorem lifted (os : Os) (started : os.Started) (H : Type) (enc : TypeId × Value → H) :
    ReturnsInHanded {} Try.checked os 5 .any (Rows.witnessSumsSpec.pre6 enc Try.prog Try.f5 Rows.witnessSumsRow.domain false) (Rows.witnessSumsSpec.post enc Try.prog Try.f5 false true false false) := by
  refine returnsInHanded_of_change_sized (C := Try.checked) own started (by kernel_rfl) Try.func5
    (ChangeSpec.witness6 (enc := enc) (C := Try.checked) false ⟨#[], #[.int .u64 0, .agg #[.int .i64 0, .int .i64 0, .slice none 0 0], .slice none 0 0, .slice none 0 0, .slice none 0 0, .slice none 0 0, .int .u64 0], []⟩ 8 (by kernel_rfl) (by kernel_rfl) (by kernel_rfl) (by kernel_rfl)) ?_
  intro W base args ds gs before hval0 hW _ hsz0 _
  have hsz : (DataW.weightsEach Try.prog (Try.f5.params.toList ++ Rows.witnessSumsSpec.plain.varTypes Try.prog) (ds ++ gs)).all (· ≤ reachBytes) = true := hsz0
  have hval : ∀ (j : Nat) t v, Try.f5.params[j]? = some t → args[j]? = some v → Value.okWide Try.prog W .any base t v := hval0
  have hW' := hW
  obtain ⟨p, q, hA0, hV, rfl, _, _⟩ := hW
  have hA : DataW.TrodAll enc Try.prog W 0 (fun _ => true) true Try.f5.params.toList args.toList ds p := hA0
  rw [Try.params5] at hA hval hsz
  obtain ⟨v0, vs0, d0, ds0, p0, q0, hargs, rfl, rfl, h0, r0⟩ := trodAll_cons hA
  obtain ⟨v1, vs1, d1, ds1, p1, q1, rfl, rfl, rfl, h1, r1⟩ := trodAll_cons r0
  obtain ⟨v2, vs2, d2, ds2, p2, q2, rfl, rfl, rfl, h2, r2⟩ := trodAll_cons r1
  obtain ⟨v3, vs3, d3, ds3, p3, q3, rfl, rfl, rfl, h3, r3⟩ := trodAll_cons r2
  obtain ⟨v4, vs4, d4, ds4, p4, q4, rfl, rfl, rfl, h4, r4⟩ := trodAll_cons r3
  obtain ⟨v5, vs5, d5, ds5, p5, q5, rfl, rfl, rfl, h5, r5⟩ := trodAll_cons r4
  obtain ⟨v6, vs6, d6, ds6, p6, q6, rfl, rfl, rfl, h6, r6⟩ := trodAll_cons r5
  obtain ⟨rfl, rfl, rfl⟩ := trodAll_nil r6
  obtain rfl : args = #[v0, v1, v2, v3, v4, v5, v6] := by cases args; simp_all
  obtain ⟨rfl, rfl⟩ := trodVars_none hV
  obtain ⟨a0, rfl, rfl, rfl, w0⟩ := open_int Try.underlying22 (hval 0 22 v0 rfl rfl) h0
  obtain ⟨mr1, mc1, mu1, xs1, rfl, wr1, wc1, i1, w1⟩ := open_Mat (hval 1 25 v1 rfl rfl) h1
  obtain ⟨xs2, i2, w2, sz2⟩ := open_IntsZ Try.underlying23 Try.underlying22 (by kernel_rfl) (by kernel_rfl) (hval 2 23 v2 rfl rfl) h2
  have z2 := sz2 _ _ 2 hsz rfl rfl
  obtain ⟨xs3, i3, w3, sz3⟩ := open_IntsZ Try.underlying23 Try.underlying22 (by kernel_rfl) (by kernel_rfl) (hval 3 23 v3 rfl rfl) h3
  have z3 := sz3 _ _ 3 hsz rfl rfl
  obtain ⟨xs4, i4, w4, sz4⟩ := open_IntsZ Try.underlying23 Try.underlying22 (by kernel_rfl) (by kernel_rfl) (hval 4 23 v4 rfl rfl) h4
  have z4 := sz4 _ _ 4 hsz rfl rfl
  obtain ⟨xs5, i5, w5, sz5⟩ := open_IntsZ Try.underlying23 Try.underlying22 (by kernel_rfl) (by kernel_rfl) (hval 5 23 v5 rfl rfl) h5
  have z5 := sz5 _ _ 5 hsz rfl rfl
  obtain ⟨a6, rfl, rfl, rfl, w6⟩ := open_int Try.underlying22 (hval 6 22 v6 rfl rfl) h6
  refine (walk a0 mr1 mc1 mu1 xs1 v2 xs2 v3 xs3 v4 xs4 v5 xs5 a6 W w0 wr1 wc1 i1 w1 i2 w2 z2 i3 w3 z3 i4 w4 z4 i5 w5 z5 w6).mono fun e W' ⟨he, hg⟩ => ⟨_, he, ?_⟩
  exact law_post (by kernel_rfl) (by kernel_rfl) rfl Try.underlying4 rfl rfl hW' hg

/-- the statement -/
theorem proved : Rows.WitnessSumsSaid :=
  OpenClaim.holds_of_wide 5 Try.f5 rfl rfl rfl rfl rfl rfl rfl ⟨rfl, rfl, rfl, rfl, rfl⟩ rfl rfl rfl rfl rfl (by kernel_rfl) Try.func5 (by kernel_rfl)
    (of_decide_eq_true (by kernel_rfl)) (by unfold Func.isWrapper; first | (rw [if_pos (by decide +kernel)]; kernel_rfl) | (rw [if_neg (by decide +kernel)]; exact ⟨rfl, rfl⟩))
    (fun os started H enc _ => lifted os started H enc)
end Go.Proofs.Ytdfkojbfgodegaa.witnessSums
