/- What the document's own answers for layer 2 are: Is, Short, Same. -/
import Derived.Test.YtncidpckokclbaaDoorField
import Derived.Test.YtncidpckokclbaaDoorPKit
namespace Go.Proofs.YtncidpckokclbaaDoor
open Go.RowKit Go.Maps

/-- no number from 2 on, whose square is no more, divides n -/
def IsP (n : Int) : Prop := 2 ≤ n ∧ ∀ d : Int, 2 ≤ d → d * d ≤ n → n % d ≠ 0

open Classical in
noncomputable def isB (n : Int) : Bool := decide (IsP n)
theorem isB_iff (n : Int) : isB n = true ↔ IsP n := by simp [isB]
theorem isB_no {n : Int} (h : ¬ IsP n) : isB n = false := by simp [isB, h]

set_option maxHeartbeats 1000000 in
theorem Is_any (n : Int) (w : World) (h0 : 0 ≤ n) (h1 : n < 4294967296) :
    Calls Tryd.prog 20 #[.int .u64 n] w fun e w' => e = .returned (.bool (isB n)) ∧ w = w' := by
  by_cases h2 : n < 2
  · go_enter Tryd.func20, Tryd.ntmps20
    go_wp2_with fail
    go_ret
    exact ⟨ret_bool (isB_no (by simp [IsP]; omega)).symm, rfl⟩
  · go_enter Tryd.func20, Tryd.ntmps20
    go_wp2_with fail
    go_loop [3] (fun q => ∃ d : Int, q = .int .u64 d ∧ 2 ≤ d ∧ d ≤ 65536 ∧ ∀ c, 2 ≤ c → c < d → n % c ≠ 0) (fun q => (65537 - intOf q).toNat)
    case atStart => exact ⟨2, rfl, by omega, by omega, fun c h1 h2 => by omega⟩
    case round =>
      obtain ⟨d, rfl, hd, hd2, hall⟩ := hrel
      have Ha := hid hall; clear hall
      have hs0 : 0 ≤ d * d := Int.mul_nonneg (by omega) (by omega)
      have hs1 : d * d ≤ 4294967296 := by
        have := Int.mul_le_mul hd2 hd2 (by omega) (by omega)
        simpa using this
      by_cases hle : d * d ≤ n
      · have bb : decide (d * d ≤ n) = true := by simpa using hle
        have hd3 : d < 65536 := by
          apply Classical.byContradiction
          intro h
          have : d = 65536 := by omega
          subst this
          omega
        by_cases hz : n % d = 0
        · have bz : (n % d == 0) = true := by simpa using hz
          have HZ := hid hz; have HL := hid hle
          clear hz hle
          go_wp2_with fail
          go_ret
          exact ⟨ret_bool (isB_no fun h => h.2 d hd HL.out HZ.out).symm, rfl⟩
        · have bz : (n % d == 0) = false := by simpa using hz
          have HZ := hid hz
          clear hz hle
          go_wp2_with fail
          go_round
          case rel => exact ⟨d + 1, rfl, by omega, by omega, fun c h3 h4 => by
            by_cases e : c = d
            · rw [e]; exact HZ.out
            · exact Ha.out c h3 (by omega)⟩
          case measure => simp [intOf]; omega
      · have bb : decide (d * d ≤ n) = false := by simpa using hle
        have HL := hid hle
        clear hle
        go_wp2_with fail
        go_ret
        refine ⟨ret_bool ((isB_iff n).2 ⟨by omega, fun c h3 h4 => ?_⟩).symm, rfl⟩
        rcases Int.lt_or_le c d with h5 | h5
        · exact Ha.out c h3 h5
        · have := Int.mul_le_mul h5 h5 (by omega) (by omega)
          have := HL.out; omega

theorem Is_as (n : Int) (b : Bool) (w : World) (h0 : 0 ≤ n) (h1 : n < 4294967296) (h : isB n = b) :
    Calls Tryd.prog 20 #[.int .u64 n] w fun e w' => e = .returned (.bool b) ∧ w = w' := h ▸ Is_any n w h0 h1

/-- a list that isn't too much for a look -/
def shortB (l : List Prf) : Bool := decide (l.length ≤ 40) && l.all fun f => decide (f.parts.length ≤ 30)

set_option maxHeartbeats 1000000 in
theorem Short_any (v : Value) (l : List Prf) (w : World) (hv : Proofs w v l) :
    Calls Tryd.prog 10 #[v] w (Ret (.bool (shortB l)) w) := by
  obtain ⟨a, cap, rfl, hc1, hc2, hc⟩ := hv
  have Hc := hid hc
  clear hc
  by_cases hl : l.length ≤ 40
  · go_enter Tryd.func10, Tryd.ntmps10
    go_wp2_with fail
    go_loop [3] (fun i => ∃ k : Nat, i = .int .i64 k ∧ k ≤ l.length ∧ ∀ j, j < k → (l.getD j .zero).parts.length ≤ 30) (fun i => l.length - (intOf i).toNat)
    case atStart => exact ⟨0, rfl, by omega, by simp⟩
    case round =>
      obtain ⟨k, rfl, hk, hall⟩ := hrel
      have Ha := hid hall; clear hall
      by_cases hlt : k < l.length
      · obtain ⟨b, off, rfl, hb, hcell⟩ := Hc.out (by omega)
        obtain ⟨c1, c2, v', c3, c4⟩ := hcell k hlt
        have hm := getD_mem .zero hlt
        obtain ⟨f, ef⟩ : ∃ f, l.getD k .zero = f := ⟨_, rfl⟩
        rw [ef] at c4 hm
        have Ef := hid ef; have Hm := hid hm
        clear hcell c1 c2 ef hm
        obtain ⟨pa, pc, rfl, p1, p2, p3⟩ := c4
        clear p3
        by_cases hp : f.parts.length ≤ 30
        · go_wp2_with fail
          go_round
          case rel => exact ⟨k + 1, by go_num, by omega, fun j hj => by
            by_cases e : j = k
            · rw [e, Ef.out]; exact hp
            · exact Ha.out j (by omega)⟩
          case measure => simp [intOf]; omega
        · go_wp2_with fail
          go_ret
          refine ⟨ret_bool ?_, (by repeat (first | exact Ext.refl _ | assumption | refine Ext.drew ?_ | refine Ext.drewN ?_ _ | refine Ext.alloc ?_ _ | refine Ext.trans ?_ (by assumption)))⟩
          have : (l.all fun f => decide (f.parts.length ≤ 30)) = false := List.all_eq_false.2 ⟨_, Hm.out, by simpa using hp⟩
          simp only [shortB, this, Bool.and_false]
      · have : (l.all fun f => decide (f.parts.length ≤ 30)) = true := by
          rw [List.all_eq_true]
          intro f hf
          obtain ⟨j, hj, rfl⟩ := List.mem_iff_getElem.1 hf
          have := Ha.out j (by omega)
          simpa [List.getD, List.getElem?_eq_getElem hj] using this
        have HH := hid this
        clear this
        go_wp2_with fail
        go_ret
        exact ⟨ret_bool (by simp only [shortB, HH.out, decide_eq_true hl, Bool.and_true]), (by repeat (first | exact Ext.refl _ | assumption | refine Ext.drew ?_ | refine Ext.drewN ?_ _ | refine Ext.alloc ?_ _ | refine Ext.trans ?_ (by assumption)))⟩
  · go_enter Tryd.func10, Tryd.ntmps10
    go_wp2_with fail
    go_ret
    exact ⟨ret_bool (by simp only [shortB, decide_eq_false hl, Bool.false_and]), (by repeat (first | exact Ext.refl _ | assumption | refine Ext.drew ?_ | refine Ext.drewN ?_ _ | refine Ext.alloc ?_ _ | refine Ext.trans ?_ (by assumption)))⟩
end Go.Proofs.YtncidpckokclbaaDoor
