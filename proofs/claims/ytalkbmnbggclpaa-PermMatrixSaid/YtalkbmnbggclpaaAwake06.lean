/- The first look of layer 6's laws: it answers true. -/
import Derived.Test.YtalkbmnbggclpaaPmY
import Derived.Test.YtalkbmnbggclpaaSame
namespace Go.Proofs.Ytalkbmnbggclpaa
open Go.RowKit Go.Maps

def pL : List Int := [1, 2, 0, 4, 3]
theorem ordPL : Ord 5 pL := ⟨rfl, by decide⟩
set_option maxRecDepth 100000 in
set_option maxHeartbeats 2000000 in
theorem awake06 (w : World) : Calls Try.prog 7 #[] w (Ret (.bool true) w) := by
  have c1 := hid fun (W : World) (v : Value) (hv : Ints .i64 W v pL) => (show Calls Try.prog 10 #[v] W (Ret (.tuple #[.int .i64 (-1), .int .i64 0]) W) from (show sgnL pL = -1 by decide +kernel) ▸ pSign hv ordPL (by omega) (by omega))
  have c2 := hid fun (W : World) (v : Value) (hv : Ints .i64 W v pL) => (show Calls Try.prog 9 #[v] W (RetVI [2, 0, 1, 4, 3] W) from (show backL pL = [2, 0, 1, 4, 3] by decide +kernel) ▸ pBack hv ordPL (by omega) (by omega))
  have c3 := hid fun (W : World) (v u : Value) (hv : Ints .i64 W v pL) (hu : Ints .u64 W u [5, 6, 7, 8, 9]) => (show Calls Try.prog 11 #[v, u] W (RetVU [6, 7, 5, 9, 8] W) from (show doL pL [5, 6, 7, 8, 9] = [6, 7, 5, 9, 8] by decide +kernel) ▸ pDo hv hu (by unfold U64s; decide) ordPL rfl (by omega) (by omega))
  have c4 := hid fun (W : World) (v : Value) (hv : Ints .i64 W v pL) => (show Calls Try.prog 13 #[v] W (RetVII [[0, 1, 2], [3, 4]] W) from (show ringsL pL = [[0, 1, 2], [3, 4]] by decide +kernel) ▸ pRings hv ordPL (by omega) (by omega))
  have c5 := hid fun (W : World) (v : Value) (hv : Ints .i64 W v pL) => (show Calls Try.prog 16 #[v] W (Ret (.bool true) W) from (show ordB pL = true by decide +kernel) ▸ pmRight v pL W hv (ordPL.i64 (by omega)))
  have hP := hid (Ints.lit (k := .i64) (w := w) (t := 3) pL (by decide) rfl)
  have hX := hid fun (W : World) => Ints.lit (k := .u64) (w := W) (t := 55) [5, 6, 7, 8, 9] (by decide) rfl
  have hS1 := hid fun (W : World) => Ints.lit (k := .i64) (w := W) (t := 3) [2, 0, 1, 4, 3] (by decide) rfl
  have hS2 := hid fun (W : World) => Ints.lit (k := .u64) (w := W) (t := 55) [6, 7, 5, 9, 8] (by decide) rfl
  go_enter Try.func7, Try.ntmps7
  go_wp2_with fail
  refine (c1.out _ _ hP.out).mono ?_
  rintro _ w1 ⟨rfl, x1⟩
  have P1 := hid (hP.out.ext x1)
  go_wp2_with fail
  refine (c2.out _ _ P1.out).mono ?_
  rintro _ w2 ⟨v2, rfl, i2, x2⟩
  have P2 := hid (P1.out.ext x2)
  have I2 := hid i2
  clear i2
  go_wp2_with fail
  refine (c3.out _ _ _ (P2.out.alloc _) (hX.out _)).mono ?_
  rintro _ w3 ⟨v3, rfl, i3, x3⟩
  have y3 := (Ext.alloc (Ext.refl _) _).trans x3
  have P3 := hid (P2.out.ext y3)
  have I3 := hid i3
  clear i3
  go_wp2_with fail
  refine (c4.out _ _ P3.out).mono ?_
  rintro _ w4 ⟨v4, rfl, ⟨a4, k4, rfl, _, _, kk⟩, x4⟩
  have P4 := hid (P3.out.ext x4)
  clear kk
  go_wp2_with fail
  refine (c5.out _ _ P4.out).mono ?_
  rintro _ w5 ⟨rfl, x5⟩
  have J2 := hid (I2.out.ext (y3.trans (x4.trans x5)))
  have J3 := hid (I3.out.ext (x4.trans x5))
  have z : Ext w w5 := (Ext.alloc (Ext.refl w) _).trans (x1.trans (x2.trans (y3.trans (x4.trans x5))))
  go_wp2_with fail
  refine (r6Same_yes _ _ _ _ (J2.out.alloc _) (hS1.out _)).mono ?_
  rintro _ w6 ⟨rfl, x6⟩
  have y6 := (Ext.alloc (Ext.refl w5) _).trans x6
  go_wp2_with fail
  refine (same_yes _ _ _ _ (J3.out.ext (y6.alloc _)) (hS2.out _)).mono ?_
  rintro _ w7 ⟨rfl, x7⟩
  go_wp2_with fail
  go_ret
  exact ⟨rfl, z.trans (y6.trans ((Ext.alloc (Ext.refl _) _).trans x7))⟩
end Go.Proofs.Ytalkbmnbggclpaa
