/- FrameReads: whatever the bytes and the cut, the law answers true, and nothing that was there has turned. No condition. -/
import Derived.Test.YticabjdcegimcaaAwake11
import Derived.Test.YticabjdcegimcaaOpenFr
namespace Go.Proofs.Yticabjdcegimcaa
open Go.RowKit
theorem byt_of {xs : List Int} (h : ∀ x ∈ xs, (Lit.int .u8 x).wf = true) : Byt xs := fun x hx => by have := u8_wf (h x hx); omega
theorem u16_wf {n : Int} (h : (Lit.int .u16 n).wf = true) : 0 ≤ n ∧ n ≤ 65535 := by
  simp [Lit.wf, IntKind.min, IntKind.max, IntKind.bits, IntKind.signed] at h; omega
theorem frm_zero (u : Value) : frmV Frm.zero u = .agg #[.int .i64 0, .int .i64 0, .int .u32 0, u] := rfl
end Go.Proofs.Yticabjdcegimcaa
namespace Go.Proofs.Yticabjdcegimcaa.frameReads
open Go.ChangeShapes Go.WideShapes Go.ChangeAt Go.RowKit Go.Maps

set_option maxRecDepth 100000 in
set_option maxHeartbeats 2000000 in
theorem walk (v : Value) (xs : List Int) (ct : Int) (w : World) (hv : Ints .u8 w v xs) (wx : ∀ x ∈ xs, (Lit.int .u8 x).wf = true) (wc : (Lit.int .u16 ct).wf = true) :
    Calls Try.prog 5 #[v, .int .u16 ct] w (Ret (.bool true) w) := by
  have hx := byt_of wx
  have hc := u16_wf wc
  clear wx wc
  by_cases hl : xs.length ≤ 3000
  · have CN := hid fun (W : World) (hW : Ext w W) => frNext v xs W (hv.ext hW) hx (by omega)
    unfold RetNx at CN
    by_cases hE : nextE xs = 0
    · obtain ⟨e1, e2⟩ := nx_yes hE
      obtain ⟨n1, n2, n3, -⟩ := nextE_ok hE
      obtain ⟨p1, p2, p3⟩ := next_of hx hE
      have hcut := fun m hm => next_cut hE (m := m) hm
      have hc0 : 0 ≤ cntF xs := by have := hx.get 7; have := hx.get 8; unfold cntF; omega
      obtain ⟨N, hN⟩ := Int.eq_ofNat_of_zero_le hc0
      have hNN : (cntF xs).toNat = N := by rw [hN]; rfl
      obtain ⟨L, hL⟩ : ∃ L, 12 + 8 * N = L := ⟨_, rfl⟩
      rw [hNN, hL] at p3 n3 hcut
      rw [e1, e2, hE, hN, show (12 : Int) + 8 * (N : Int) = (L : Int) by omega] at CN
      have CP := hid fun (W : World) (u : Value) (hu : Ints .u64 W u (nextF xs).body) => frPut (nextF xs) u W p2 hu
      unfold RetPut at CP
      rw [(put_yes p1).1, (put_yes p1).2, p3] at CP
      have hlt : (xs.take L).length = L := by rw [List.length_take]; omega
      rw [hlt] at CP
      obtain ⟨a, cap, rfl, h1, h2⟩ := hv.shape
      obtain ⟨b, off, rfl, -, hb, -⟩ := hv.cell (by omega)
      obtain ⟨m, hm⟩ : ∃ m : Nat, ct % (L : Int) = m := ⟨(ct % (L : Int)).toNat, by have := Int.emod_nonneg ct (show (L : Int) ≠ 0 by omega); omega⟩
      have hml : m < L := by have := Int.emod_lt_of_pos ct (show (0 : Int) < (L : Int) by omega); omega
      have htm : ct.tmod (L : Int) = (m : Int) := by rw [Int.tmod_eq_emod_of_nonneg hc.1]; exact hm
      have C3 := hid fun (W : World) (hW : Ext w W) => frNext (.slice (some ⟨b, off, none⟩) m cap) (xs.take m) W ((hv.take' m (by omega)).ext hW) (hx.take m) (by rw [List.length_take]; omega)
      have he3 := hcut m (by omega)
      obtain ⟨q1, q2⟩ := nx_no he3 (by omega)
      unfold RetNx at C3
      rw [q1, q2, he3] at C3
      have IL := hid (fun (W : World) (hW : Ext w W) => (hv.take' L (by omega)).ext hW)
      obtain ⟨F, eF⟩ : ∃ F, nextF xs = F := ⟨_, rfl⟩
      obtain ⟨B, eB⟩ : ∃ B, xs.take L = B := ⟨_, rfl⟩
      rw [eF] at CN CP
      rw [eB] at CP IL
      obtain ⟨k, r, nm, l⟩ := F
      have CN : Hid (∀ W, Ext w W → Calls Try.prog 10 #[.slice (some ⟨b, off, none⟩) xs.length cap] W fun e w' => ∃ u, e = .returned (.tuple #[.agg #[.int .i64 k, .int .i64 r, .int .u32 nm, u], .int .i64 L, .int .i64 0]) ∧ w'.ownsRow W.heap.size 48 1 u l.length (l.map (Value.int .u64)) ∧ Ext W w') := CN
      have CP : Hid (∀ W u, Ints .u64 W u l → Calls Try.prog 8 #[.agg #[.int .i64 k, .int .i64 r, .int .u32 nm, u]] W fun e w' => ∃ v, e = .returned (.tuple #[v, .int .i64 0]) ∧ w'.ownsRow W.heap.size 5 1 v L (B.map (Value.int .u8)) ∧ Ext W w') := CP
      have C3 : Hid (∀ W, Ext w W → Calls Try.prog 10 #[.slice (some ⟨b, off, none⟩) m cap] W fun e w' => ∃ u, e = .returned (.tuple #[.agg #[.int .i64 0, .int .i64 0, .int .u32 0, u], .int .i64 0, .int .i64 3]) ∧ w'.ownsRow W.heap.size 48 1 u 0 [] ∧ Ext W w') := C3
      clear hv hx hE e1 e2 n1 n2 p1 p2 p3 hcut hc0 hN hNN hL hlt hm he3 q1 q2 eF eB
      have hLm : L ≤ cap ∧ m ≤ cap ∧ 0 < L := by omega
      go_enter Try.func5, Try.ntmps5
      go_wp2_with (go_at_call 7; refine (awake11 _).mono ?_; rintro _ w1 ⟨rfl, x1⟩)
      refine (CN.out _ x1).mono ?_
      rintro _ w2 ⟨u2, rfl, o2, x2⟩
      obtain ⟨a2, c2, e2, -, -⟩ := own_nums o2
      subst e2
      have I2 := hid (own_read (o2.alloc (.cells #[.int .i64 k, .int .i64 r, .int .u32 nm, .slice a2 l.length c2] 25)))
      clear o2
      go_wp2_with fail
      refine (CP.out _ _ I2.out).mono ?_
      rintro _ w3 ⟨v3, rfl, o3, x3⟩
      have z3 : Ext w w3 := (x1.trans x2).trans (Ext.trans ((Ext.refl _).alloc _) x3)
      have hS1 := hid (fun n => str_bytes ((own_read o3).ext ((Ext.refl w3).drewN n)))
      have hS2 := hid (fun n => str_bytes (IL.out (w3.drewN n) (z3.drewN n)))
      obtain ⟨a3, c3, e3, -, -⟩ := own_nums o3
      subst e3
      have s1 := hS1.out
      have s2 := hS2.out
      clear o3
      go_wp2_with fail
      go_quiet (fail)
      clear s1 s2
      go_wp2_with fail
      refine (C3.out _ (z3.drewN _)).mono ?_
      rintro _ w4 ⟨u4, rfl, o4, x4⟩
      obtain ⟨a4, c4, e4, -, -⟩ := own_nums (k := .u64) (xs := []) o4
      subst e4
      have z4 := (z3.drewN nq).trans x4
      clear o4
      go_wp2_with fail
      go_ret
      exact ⟨rfl, z4.alloc _⟩
    · obtain ⟨e1, e2⟩ := nx_no (k := nextE xs) rfl hE
      rw [e1, e2] at CN
      have CZ := hid fun (W : World) (u : Value) (hu : Ints .u64 W u []) => r11Same Frm.zero Frm.zero u (.slice none 0 0) W hu Ints.nil
      rw [decide_eq_true (rfl : Frm.zero = Frm.zero)] at CZ
      obtain ⟨a, cap, rfl, h1, h2⟩ := hv.shape
      have hr := nextE_range xs
      obtain ⟨E, eE⟩ : ∃ E, nextE xs = E := ⟨_, rfl⟩
      rw [eE] at CN hr hE
      have CN : Hid (∀ W, Ext w W → Calls Try.prog 10 #[.slice a xs.length cap] W fun e w' => ∃ u, e = .returned (.tuple #[.agg #[.int .i64 0, .int .i64 0, .int .u32 0, u], .int .i64 0, .int .i64 E]) ∧ w'.ownsRow W.heap.size 48 1 u 0 [] ∧ Ext W w') := CN
      have CZ : Hid (∀ W u, Ints .u64 W u [] → Calls Try.prog 17 #[.agg #[.int .i64 0, .int .i64 0, .int .u32 0, u], .agg #[.int .i64 0, .int .i64 0, .int .u32 0, .slice none 0 0]] W (Ret (.bool true) W)) := CZ
      have b0 : (E != 0) = true := by simp [hE]
      clear hv hx hE e1 e2 eE hr
      go_enter Try.func5, Try.ntmps5
      go_wp2_with (go_at_call 7; refine (awake11 _).mono ?_; rintro _ w1 ⟨rfl, x1⟩)
      refine (CN.out _ x1).mono ?_
      rintro _ w2 ⟨u2, rfl, o2, x2⟩
      obtain ⟨a2, c2, e2, -, -⟩ := own_nums (k := .u64) (xs := []) o2
      subst e2
      have I2 := hid (own_read (k := .u64) (xs := []) (o2.alloc (.cells #[.int .i64 0, .int .i64 0, .int .u32 0, .slice a2 0 c2] 25)))
      clear o2
      go_wp2_with fail
      refine (CZ.out _ _ I2.out).mono ?_
      rintro _ w3 ⟨rfl, x3⟩
      go_wp2_with fail
      go_ret
      exact ⟨rfl, (x1.trans x2).trans (Ext.trans ((Ext.refl _).alloc _) x3)⟩
  · obtain ⟨a, cap, rfl, h1, h2⟩ := hv.shape
    clear hv hx
    go_enter Try.func5, Try.ntmps5
    go_wp2_with (go_at_call 7; refine (awake11 _).mono ?_; rintro _ w1 ⟨rfl, x1⟩)
    go_ret
    exact ⟨rfl, x1⟩
theorem own : ownKnob Try.prog.godebug = none := by kernel_rfl
set_option maxRecDepth 100000 in
theorem lifted (os : Os) (started : os.Started) (H : Type) (enc : TypeId × Value → H) :
    ReturnsInHanded {} Try.checked os 5 .any (Rows.frameReadsSpec.pre6 enc Try.prog Try.f5 Rows.frameReadsRow.domain false) (Rows.frameReadsSpec.post enc Try.prog Try.f5 false true false false) := by
  refine returnsInHanded_of_change (C := Try.checked) own started (by kernel_rfl) Try.func5
    (ChangeSpec.witness6 (enc := enc) (C := Try.checked) false ⟨#[], #[.slice none 0 0, .int .u16 0], []⟩ 8 (by kernel_rfl) (by kernel_rfl) (by kernel_rfl) (by kernel_rfl)) ?_
  intro W base args ds gs before hval0 hW _ _
  have hval : ∀ (j : Nat) t v, Try.f5.params[j]? = some t → args[j]? = some v → Value.okWide Try.prog W .any base t v := hval0
  have hW' := hW
  obtain ⟨p, q, hA0, hV, rfl, _, _⟩ := hW
  have hA : DataW.TrodAll enc Try.prog W 0 (fun _ => true) true Try.f5.params.toList args.toList ds p := hA0
  rw [Try.params5] at hA hval
  obtain ⟨v0, vs0, d0, ds0, p0, q0, hargs, rfl, rfl, h0, r0⟩ := trodAll_cons hA
  obtain ⟨v1, vs1, d1, ds1, p1, q1, rfl, rfl, rfl, h1, r1⟩ := trodAll_cons r0
  obtain ⟨rfl, rfl, rfl⟩ := trodAll_nil r1
  obtain rfl : args = #[v0, v1] := by cases args; simp_all
  obtain ⟨rfl, rfl⟩ := trodVars_none hV
  obtain ⟨xs0, i0, w0⟩ := open_Ints Try.underlying26 Try.underlying5 (by kernel_rfl) (hval 0 26 v0 rfl rfl) h0
  obtain ⟨a1, rfl, rfl, rfl, w1⟩ := open_int Try.underlying43 (hval 1 43 v1 rfl rfl) h1
  refine (walk v0 xs0 a1 W i0 w0 w1).mono fun e W' ⟨he, hg⟩ => ⟨_, he, ?_⟩
  exact law_post (by kernel_rfl) (by kernel_rfl) rfl Try.underlying4 rfl rfl hW' hg

/-- the statement -/
theorem proved : Rows.FrameReadsSaid :=
  OpenClaim.holds_of_wide 5 Try.f5 rfl rfl rfl rfl rfl rfl rfl ⟨rfl, rfl, rfl, rfl, rfl⟩ rfl rfl rfl rfl rfl (by kernel_rfl) Try.func5 (by kernel_rfl)
    (of_decide_eq_true (by kernel_rfl)) (by unfold Func.isWrapper; first | (rw [if_pos (by decide +kernel)]; kernel_rfl) | (rw [if_neg (by decide +kernel)]; exact ⟨rfl, rfl⟩))
    (fun os started H enc _ => lifted os started H enc)
end Go.Proofs.Yticabjdcegimcaa.frameReads
