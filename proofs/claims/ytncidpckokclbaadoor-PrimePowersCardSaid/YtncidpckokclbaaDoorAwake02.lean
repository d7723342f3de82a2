/- The fixed answers that layer 2's statements begin with. -/
import Derived.Test.YtncidpckokclbaaDoorSmall
namespace Go.Proofs.YtncidpckokclbaaDoor
open Go.RowKit Go.Maps

def gen7 (n : Int) : Int := if n = 3 then 2 else 3
theorem good7 : Good [3, 7] gen7 where
  range := by decide
  prime := by decide +kernel
  parts := by decide +kernel
  few := by decide +kernel
  pos := by decide
  root := by decide +kernel
  least := by
    intro n hn j h1 h2
    simp at hn
    rcases hn with rfl | rfl
    · have : j = 1 := by simp [gen7] at h2; omega
      subst this; decide +kernel
    · have : j = 1 ∨ j = 2 := by simp [gen7] at h2; omega
      rcases this with rfl | rfl
      · decide +kernel
      · decide +kernel
  down := by decide +kernel
theorem list7 {ss : List Int} (h1 : ss.Pairwise (· < ·)) (h2 : ∀ n ∈ ss, n ∈ ([3, 7] : List Int)) (h3 : 7 ∈ ss) (h4 : ∀ n ∈ ss, ∀ q ∈ partsOf n, q.1 = 2 ∨ q.1 ∈ ss) : ss = [3, 7] := by
  have h5 : (3 : Int) ∈ ss := by
    have hp : partsOf 7 = [(2, 1), (3, 1)] := by decide +kernel
    have := h4 7 h3 (3, 1) (by rw [hp]; simp)
    simpa using this
  have hnd : ss.Nodup := h1.imp (by intro a b h; omega)
  have hl := nodup_le ss [3, 7] hnd h2
  match ss, hl with
  | [], _ => simp at h3
  | [a], _ => simp at h3 h5; omega
  | [a, b], _ =>
    have ha := h2 a (by simp); have hb := h2 b (by simp)
    simp at ha hb h1
    rcases ha with rfl | rfl <;> rcases hb with rfl | rfl <;> simp_all
  | a :: b :: c :: r, h => simp at h

def seven : List Prf := [⟨3, 2, [(2, 1)]⟩, ⟨7, 3, [(2, 1), (3, 1)]⟩]
theorem seven_eq : [3, 7].map (mkPrf gen7) = seven := by
  have h1 : partsOf 3 = [(2, 1)] := by decide +kernel
  have h2 : partsOf 7 = [(2, 1), (3, 1)] := by decide +kernel
  simp [mkPrf, h1, h2, gen7, seven]
theorem seven_ok : ∀ f ∈ seven, f.Ok := by
  intro f hf
  simp [seven] at hf
  rcases hf with rfl | rfl <;> simp [Prf.Ok, PartsOk]
theorem seven_first : firstD seven = 2 := by decide +kernel
theorem seven_shows : showsB seven 7 = true := by decide +kernel
theorem small65537 : smallB 65537 = true := by decide +kernel
theorem parts12 : partsD 12 = ([(2, 2), (3, 1)], 0) := by decide +kernel
theorem parts8 : partsD (9 - 1) = ([(2, 3)], 0) := by decide +kernel
theorem prime9 : primeB 9 = false := by decide +kernel

set_option maxRecDepth 100000 in
set_option maxHeartbeats 2000000 in
theorem awake02 (w : World) (hT : Tab w) : Calls Tryd.prog 9 #[] w (Ret (.bool true) w) := by
  have HT := hid hT
  clear hT
  go_enter Tryd.func9, Tryd.ntmps9
  go_wp2_with fail
  refine (Build_ok [3, 7] gen7 good7 (by decide) 7 _ (by omega) (by omega) (.inr (by decide)) HT.out).mono ?_
  rintro _ w1 ⟨v, ss, ⟨rfl, x1⟩, hpr, hpw, hin, hst, hdn⟩
  obtain rfl := list7 hpw (fun n hn => (hin n hn).1) (hst.resolve_left (by decide)) hdn
  rw [seven_eq] at hpr
  have HV := hid hpr
  obtain ⟨a, cap, rfl, p1, p2, p3⟩ := hpr
  obtain ⟨b, off, rfl, hb, hc⟩ := p3 (by decide)
  obtain ⟨c1, c2, c3⟩ := hc 1 (by decide)
  clear hpw hin hst hdn p3 hc c3
  change w1.cell? ⟨b, off + 3, none⟩ = some (.int .u64 7) at c1
  change w1.cell? ⟨b, off + 3 + 1, none⟩ = some (.int .u64 3) at c2
  change 2 ≤ cap at p1
  have el : seven.length = 2 := rfl
  rw [el] at HV ⊢
  go_wp2_with fail
  have hP := Parts_any 12 w1 (by omega) (by omega)
  rw [parts12] at hP
  refine hP.mono ?_; rintro _ w2 ⟨v2, rfl, hrow, x2⟩
  have hv2 := Parts.own hrow
  obtain ⟨a2, cap2, rfl, q1, q2, q3⟩ := hv2
  obtain ⟨b2, off2, rfl, hb2, hc2⟩ := q3 (by decide)
  obtain ⟨d1, d2⟩ := hc2 0 (by decide)
  clear hrow q3 hc2 hP
  change w2.cell? ⟨b2, off2 + 0, none⟩ = some (.int .u64 2) at d1
  change w2.cell? ⟨b2, off2 + 0 + 1, none⟩ = some (.int .i64 2) at d2
  simp only [Nat.add_zero] at d1 d2
  go_wp2_with fail
  refine (Build_none 9 _ w2 (by omega) (by omega) parts8 prime9 ((HT.out.ext x1).ext x2)).mono ?_; rintro _ w3 ⟨rfl, x3⟩
  have e13 : Ext w1 w3 := x2.trans x3
  have c1' := (e13.cells _ _ hb).trans c1
  have c2' := (e13.cells _ _ hb).trans c2
  have d2' := (x3.cells _ _ hb2).trans d2
  clear c1 c2 d1 d2
  have H3 := hid (HV.out.ext e13)
  go_wp2_with fail
  refine (Check_any _ seven _ H3.out seven_ok).mono ?_; rintro _ w4 ⟨rfl, x4⟩
  rw [seven_first]
  have b1 : decide (2 = seven.length) = true := rfl
  rw [b1]
  go_wp2_with fail
  refine (Shows_any _ seven 7 _ (H3.out.ext x4) seven_ok).mono ?_; rintro _ w5 ⟨rfl, x5⟩
  rw [seven_shows]
  go_wp2_with fail
  refine (First_any _ seven _ ((H3.out.ext x4).ext x5) seven_ok).mono ?_; rintro _ w6 ⟨rfl, x6⟩
  rw [seven_first]
  go_wp2_with fail
  refine (Small_any 65537 _ (by omega) (by omega)).mono ?_; rintro _ w7 ⟨rfl, x7⟩
  rw [small65537]
  go_wp2_with fail
  go_ret
  exact ⟨rfl, ((((x1.trans e13).trans x4).trans x5).trans x6).trans x7⟩
end Go.Proofs.YtncidpckokclbaaDoor
