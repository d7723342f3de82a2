/- TapeEven: whatever the modulus and the word, the law answers true, and nothing that was there has turned. No condition. -/
import Derived.Test.YtcganfmlfoebpaaTpL
import Derived.Test.YtcganfmlfoebpaaAwake10
import Derived.Test.YtcganfmlfoebpaaOpenTp
namespace Go.Proofs.Ytcganfmlfoebpaa.tapeEven
open Go.ChangeShapes Go.WideShapes Go.ChangeAt Go.RowKit Go.Maps

theorem zeros (w : World) : (zeroValue 42).run Try.prog w = .ok (.agg (Array.replicate 3000 (.bool false))) w := by kernel_rfl
set_option maxRecDepth 100000 in
set_option maxHeartbeats 2000000 in
theorem walk (p x : Int) (w : World) (wp : (Lit.int .u64 p).wf = true) (wx : (Lit.int .u64 x).wf = true) :
    Calls Try.prog 4 #[.int .u64 p, .int .u64 x] w (Ret (.bool true) w) := by
  have hp := u64_wf wp
  have hx := u64_wf wx
  clear wp wx
  by_cases g1 : p < 2
  · go_enter Try.func4, Try.ntmps4
    go_wp2_with (go_at_call 7; refine (awake10 _).mono ?_; rintro _ w1 ⟨rfl, x1⟩)
    go_ret
    exact ⟨rfl, x1⟩
  by_cases g2 : 3000 < p
  · go_enter Try.func4, Try.ntmps4
    go_wp2_with (go_at_call 7; refine (awake10 _).mono ?_; rintro _ w1 ⟨rfl, x1⟩)
    go_ret
    exact ⟨rfl, x1⟩
  have hR : rightB p = true := rightB_mk ⟨by omega, by omega⟩
  have HR := hid hR
  have CC := hid fun (y : Int) (W : World) => tpCounts p y W (by omega) (by omega)
  cases hC : cntB p x with
  | false =>
    obtain ⟨h1, h2⟩ := off_counts hR hx.2 hC
    have HC := hid hC; have H2 := hid h2
    clear hR hC h2
    go_enter Try.func4, Try.ntmps4
    go_wp2_with (go_at_call 7; refine (awake10 _).mono ?_; rintro _ w1 ⟨rfl, x1⟩)
    refine (CC.out _ _).mono ?_
    rw [HC.out]; rintro _ _ ⟨rfl, rfl⟩
    go_wp2_with fail
    refine (CC.out _ _).mono ?_
    rw [H2.out]; rintro _ _ ⟨rfl, rfl⟩
    go_wp2_with fail
    go_ret
    exact ⟨ret_bool (by simp), x1⟩
  | true =>
    have hrow := hid (fun i (h0 : 0 ≤ i) (h : i < p) => row_counts hR hx.1 hx.2 hC h0 h)
    have hr := mod_range x (show 2 ≤ p by omega)
    obtain ⟨r, er⟩ : ∃ r, x % p = r := ⟨_, rfl⟩
    have htr : x.tmod p = r := by rw [Int.tmod_eq_emod_of_nonneg hx.1]; exact er
    rw [er] at hrow hr
    have hf0 : 0 ≤ x - r := by
      have a3 := Int.ediv_mul_add_emod x p
      have a4 := Int.mul_nonneg (Int.ediv_nonneg hx.1 (show 0 ≤ p by omega)) (show 0 ≤ p by omega)
      omega
    obtain ⟨f, ef⟩ : ∃ f, x - r = f := ⟨_, rfl⟩
    rw [ef] at hrow hf0
    have hfx : f ≤ x := by omega
    obtain ⟨P, eP⟩ := Int.eq_ofNat_of_zero_le hp.1
    subst eP
    have HC := hid hC
    have hZ := zeros
    obtain ⟨Z, eZ⟩ : ∃ Z : Array Value, Array.replicate 3000 (.bool false) = Z := ⟨_, rfl⟩
    rw [eZ] at hZ
    have hZc := hid (fun y (hy : y < 3000) => (show Z[y]? = some (.bool false) by rw [← eZ]; simp [hy]))
    have hcs0 := hid (fun y (hy : y < 3000) => (show Z[y]? = some (.bool (decide (y < 0))) by rw [hZc.out y hy]; rfl))
    clear hR hC htr eZ hZc
    go_enter Try.func4, Try.ntmps4
    go_wp2_with (go_at_call 7; refine (awake10 _).mono ?_; rintro _ w1 ⟨rfl, x1⟩)
    refine (CC.out _ _).mono ?_
    rw [HC.out]; rintro _ _ ⟨rfl, rfl⟩
    go_wp2_with fail
    clear er ef
    go_loopw [7, 8, 9, 10] (fun iv _ _ _ wr => ∃ (j : Nat) (cs : Array Value), iv = .int .u64 j ∧ j ≤ P ∧ Hid (Blk wr w1.heap.size 42 cs) ∧ Hid (∀ y, y < 3000 → cs[y]? = some (.bool (decide (y < j)))) ∧ Ext w1 wr) (fun iv _ _ _ _ => P - (intOf iv).toNat)
    case atStart => exact ⟨0, Z, rfl, Nat.zero_le _, hid (Blk.new _ _ _), hcs0, (Ext.refl _).alloc _⟩
    case round =>
      obtain ⟨j, cs, rfl, hj, HB, hcs, hw⟩ := hrel
      rename World => wr
      by_cases hlt : j < P
      · obtain ⟨z1, z2, z3⟩ := hrow.out j (by omega) (by omega)
        obtain ⟨z, ez⟩ : ∃ z, f + (j : Int) = z := ⟨_, rfl⟩
        rw [ez] at z1 z2 z3
        obtain ⟨o1, o2, o3⟩ := one_yes HR.out z2
        rw [z3] at o1
        have CD := hid fun (W : World) (v : Value) (hv : Ints .u64 W v [z]) => tpDrawE (by omega) (by omega) (by omega) (U64s.one (by omega) (by omega)) (by simp) o1 o2 o3 hv
        unfold RetTd at CD
        have hI := hid (Ints.new1 (k := .u64) (w := wr) (t := 22) (a := z))
        clear o1 o2 o3 z2 z3
        have hx0 := (Ext.refl wr).alloc (.cells #[.int .u64 z] 22)
        go_wp2_with fail
        refine (CD.out _ _ hI.out).mono ?_
        rintro _ w2 ⟨v2, rfl, i2, x2⟩
        obtain ⟨a2, c2, rfl, -, -, -⟩ := i2
        have x3 := (hx0.trans x2).alloc (.cells #[.slice a2 1 c2, .int .i64 1] 25)
        obtain ⟨b0, b1⟩ := (Blk.new w2 25 #[.slice a2 1 c2, .int .i64 1]).at2
        have HB3 := hid (HB.out.ext x3)
        have s0 := HB3.out.cell j
        rw [hcs.out j (by omega), decide_eq_false (Nat.lt_irrefl j)] at s0
        have s1 := HB3.out.frozen j
        have HS := hid (HB3.out.set_ j (.bool true))
        have hcs2 := hid (fun y (hy : y < 3000) => (show (cs.setIfInBounds j (.bool true))[y]? = some (.bool (decide (y < j + 1))) by
          rw [Array.getElem?_setIfInBounds]
          have hyc := hcs.out y hy
          have hsz : y < cs.size := (Array.getElem?_eq_some_iff.1 hyc).1
          by_cases e : j = y
          · subst e; rw [if_pos rfl, if_pos hsz, decide_eq_true (by omega)]
          · rw [if_neg e, hyc]; congr 2; rw [Bool.eq_iff_iff]; simp; omega))
        go_wp2_with fail
        go_roundw
        case rel => exact ⟨j + 1, _, by go_num, by omega, HS, hcs2, (hw.trans x3).setCell (p := ⟨w1.heap.size, j, none⟩) (Nat.le_refl _) _⟩
        case measure => simp [intOf]; omega
      · obtain rfl : P = j := by omega
        go_wp2_with fail
        go_ret
        exact ⟨rfl, x1.trans hw⟩
theorem own : ownKnob Try.prog.godebug = none := by kernel_rfl
set_option maxRecDepth 100000 in
theorem lifted (os : Os) (started : os.Started) (H : Type) (enc : TypeId × Value → H) :
    ReturnsInHanded {} Try.checked os 4 .any (Rows.tapeEvenSpec.pre6 enc Try.prog Try.f4 Rows.tapeEvenRow.domain false) (Rows.tapeEvenSpec.post enc Try.prog Try.f4 false true false false) := by
  refine returnsInHanded_of_change (C := Try.checked) own started (by kernel_rfl) Try.func4
    (ChangeSpec.witness6 (enc := enc) (C := Try.checked) false ⟨#[], #[.int .u64 0, .int .u64 0], []⟩ 8 (by kernel_rfl) (by kernel_rfl) (by kernel_rfl) (by kernel_rfl)) ?_
  intro W base args ds gs before hval0 hW _ _
  have hval : ∀ (j : Nat) t v, Try.f4.params[j]? = some t → args[j]? = some v → Value.okWide Try.prog W .any base t v := hval0
  have hW' := hW
  obtain ⟨p, q, hA0, hV, rfl, _, _⟩ := hW
  have hA : DataW.TrodAll enc Try.prog W 0 (fun _ => true) true Try.f4.params.toList args.toList ds p := hA0
  rw [Try.params4] at hA hval
  obtain ⟨v0, vs0, d0, ds0, p0, q0, hargs, rfl, rfl, h0, r0⟩ := trodAll_cons hA
  obtain ⟨v1, vs1, d1, ds1, p1, q1, rfl, rfl, rfl, h1, r1⟩ := trodAll_cons r0
  obtain ⟨rfl, rfl, rfl⟩ := trodAll_nil r1
  obtain rfl : args = #[v0, v1] := by cases args; simp_all
  obtain ⟨rfl, rfl⟩ := trodVars_none hV
  obtain ⟨a0, rfl, rfl, rfl, w0⟩ := open_int Try.underlying22 (hval 0 22 v0 rfl rfl) h0
  obtain ⟨a1, rfl, rfl, rfl, w1⟩ := open_int Try.underlying22 (hval 1 22 v1 rfl rfl) h1
  refine (walk a0 a1 W w0 w1).mono fun e W' ⟨he, hg⟩ => ⟨_, he, ?_⟩
  exact law_post (by kernel_rfl) (by kernel_rfl) rfl Try.underlying4 rfl rfl hW' hg

/-- the statement -/
theorem proved : Rows.TapeEvenSaid :=
  OpenClaim.holds_of_wide 4 Try.f4 rfl rfl rfl rfl rfl rfl rfl ⟨rfl, rfl, rfl, rfl, rfl⟩ rfl rfl rfl rfl rfl (by kernel_rfl) Try.func4 (by kernel_rfl)
    (of_decide_eq_true (by kernel_rfl)) (by unfold Func.isWrapper; first | (rw [if_pos (by decide +kernel)]; kernel_rfl) | (rw [if_neg (by decide +kernel)]; exact ⟨rfl, rfl⟩))
    (fun os started H enc _ => lifted os started H enc)
end Go.Proofs.Ytcganfmlfoebpaa.tapeEven
