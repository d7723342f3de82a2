/- Package frame: the first bytes. -/
import Derived.Test.YticabjdcegimcaaFr5
import Derived.Deep.RegionLaw
namespace Go.Proofs.Yticabjdcegimcaa
open Go.RowKit Go.Maps

theorem results_cell_tmp {P : Program} {fn : Func} {p u : Tmp} {ty : TypeId} (h : fn.results = #[.cell p ty, .tmp u]) (tmps : Array Value) (w : World) (g : Nat) (t : TypeId) (cs : Array Value) (fr : Nat × Nat) (d : TypeDesc)
    (hp : tmps.getD p undef = .pointer (some ⟨g, 0, none⟩)) (hg : w.heap[g]? = some (.cells cs t fr))
    (hu : P.underlying ty = some d) (hd : (match d with | .struct _ | .array _ _ => true | _ => false) = true) (hi : (P.info? ty).map (·.size) = some cs.size) :
    (results fn tmps).run P w = .ok (.tuple #[.agg cs, tmps.getD u undef]) w := by
  have hp' : tmps[p]?.getD undef = .pointer (some ⟨g, 0, none⟩) := by simpa using hp
  simp [results, h, hp', asAddr, run_loadVar_row w g t ty cs fr d hg hu hd hi, Result.andThen]
theorem results_cell_tmp_tmp {P : Program} {fn : Func} {p u x : Tmp} {ty : TypeId} (h : fn.results = #[.cell p ty, .tmp u, .tmp x]) (tmps : Array Value) (w : World) (g : Nat) (t : TypeId) (cs : Array Value) (fr : Nat × Nat) (d : TypeDesc)
    (hp : tmps.getD p undef = .pointer (some ⟨g, 0, none⟩)) (hg : w.heap[g]? = some (.cells cs t fr))
    (hu : P.underlying ty = some d) (hd : (match d with | .struct _ | .array _ _ => true | _ => false) = true) (hi : (P.info? ty).map (·.size) = some cs.size) :
    (results fn tmps).run P w = .ok (.tuple #[.agg cs, tmps.getD u undef, tmps.getD x undef]) w := by
  have hp' : tmps[p]?.getD undef = .pointer (some ⟨g, 0, none⟩) := by simpa using hp
  simp [results, h, hp', asAddr, run_loadVar_row w g t ty cs fr d hg hu hd hi, Result.andThen]
theorem slice8_run (b off len cap lo hi : Nat) (h1 : lo ≤ hi) (h2 : hi ≤ cap) (h3 : lo < cap) (w : World) :
    (Instr.slice 26 (.slice (some ⟨b, off, none⟩) len cap) (some (.int .i64 (lo : Int))) (some (.int .i64 (hi : Int))) none).run Try.prog w = .ok (.slice (some ⟨b, off + lo, none⟩) (hi - lo) (cap - lo)) w := by
  have hu : Try.prog.underlying 26 = some (.slice (Try.prog.elem 26)) := by kernel_rfl
  have hs : ((sizeOf (Try.prog.elem 26)).run Try.prog w) = .ok 1 w := by kernel_rfl
  rw [run_slice_lh w 26 _ len cap hu .i64 .i64 lo hi (by omega) (by omega) (by omega), hs]
  simp only [Result.andThen, sliced, Int.toNat_natCast]
  rw [if_neg (by omega)]
  simp [Go.WideShapes.add_plain]
theorem slice8_run' (b off len cap lo hi : Nat) (h1 : lo ≤ hi) (h2 : hi ≤ cap) (h3 : lo < cap) (w : World) :
    (Instr.sliceAt 26 (.slice (some ⟨b, off, none⟩) len cap) (some (.int .i64 (lo : Int))) (some (.int .i64 (hi : Int))) none).run Try.prog w = .ok (.slice (some ⟨b, off + lo, none⟩) (hi - lo) (cap - lo)) w := by
  have hu : Try.prog.underlying 26 = some (.slice (Try.prog.elem 26)) := by kernel_rfl
  rw [run_sliceAt_slice w 26 _ _ _ _ hu]
  exact slice8_run b off len cap lo hi h1 h2 h3 w
theorem Blk.put4 {w : World} {g : Nat} {t : TypeId} {a b c d : Value} (h : Blk w g t #[a, b, c, d]) (a' b' c' d' : Value) : Blk ((((w.setCell ⟨g, 0, none⟩ a').setCell ⟨g, 1, none⟩ b').setCell ⟨g, 2, none⟩ c').setCell ⟨g, 3, none⟩ d') g t #[a', b', c', d'] := by
  have := (((h.set_ 0 a').set_ 1 b').set_ 2 c').set_ 3 d'
  simpa using this
theorem Ext.put4 {w0 w : World} {g : Nat} (h : Ext w0 w) (hg : w0.heap.size ≤ g) (a b c d : Value) : Ext w0 ((((w.setCell ⟨g, 0, none⟩ a).setCell ⟨g, 1, none⟩ b).setCell ⟨g, 2, none⟩ c).setCell ⟨g, 3, none⟩ d) :=
  (((h.setCell (p := ⟨g, 0, none⟩) hg a).setCell (p := ⟨g, 1, none⟩) hg b).setCell (p := ⟨g, 2, none⟩) hg c).setCell (p := ⟨g, 3, none⟩) hg d
theorem wr_i {n : Int} (h : 0 ≤ n ∧ n < 4294967296) : IntKind.i64.wrap n = n := by simp [IntKind.wrap, IntKind.bits, IntKind.signed]; omega
theorem wr_u {n : Int} (h : 0 ≤ n ∧ n < 4294967296) : IntKind.u32.wrap n = n := by simp [IntKind.wrap, IntKind.bits, IntKind.signed]; omega
/-- what head answers -/
def headF (xs : List Int) : Frm := ⟨xs.getD 1 0, xs.getD 2 0, ofB (cutL xs 3 4), []⟩
set_option maxRecDepth 100000 in
set_option maxHeartbeats 2000000 in
theorem frHead (b off cap : Nat) (xs : List Int) (w : World) (hl : xs.length = 9) (hc : 9 ≤ cap) (hv : Ints .u8 w (.slice (some ⟨b, off, none⟩) 9 cap) xs) (hx : Byt xs) :
    Calls Try.prog 21 #[.slice (some ⟨b, off, none⟩) 9 cap] w (Ret (.tuple #[frmV (headF xs) (.slice none 0 0), .int .i64 (cntF xs)]) w) := by
  obtain ⟨b', off', e, -, hb, hcl⟩ := hv.cell (by omega)
  injection e with e; injection e with e1 e2
  subst e1; subst e2
  have hcap : cap ≤ 9223372036854775807 := by obtain ⟨_, c', e, _, h, _⟩ := hv; injection e with _ _ e; omega
  have C1 := hid fun (W : World) (hW : Ext w W) => frNumber _ _ W ((hv.cut 3 4 (cap - 3) (by omega) (by omega) (by omega)).ext hW) (cutL_byt hx _ _) (by rw [cutL_len (by omega)]; omega)
  have C2 := hid fun (W : World) (hW : Ext w W) => frNumber _ _ W ((hv.cut 7 2 (cap - 7) (by omega) (by omega) (by omega)).ext hW) (cutL_byt hx _ _) (by rw [cutL_len (by omega)]; omega)
  have hc2 : ofB (cutL xs 7 2) = cntF xs := by
    have e : cutL xs 7 2 = [xs.getD 7 0, xs.getD 8 0] := by
      have := take_cut (xs.drop 7) 1 1
      have e1 : cutL xs 7 2 = (xs.drop 7).take (1 + 1) := rfl
      rw [e1, this, show cutL (xs.drop 7) 1 1 = cutL xs 8 1 by unfold cutL; rw [List.drop_drop], show (xs.drop 7).take 1 = cutL xs 7 1 from rfl, cut_one (by omega), cut_one (by omega)]
      rfl
    rw [e]
    unfold cntF
    simp [ofB]
  have g1 := hid fun (W : World) (hW : Ext w W) => hcl 1 (by omega) W hW
  have g2 := hid fun (W : World) (hW : Ext w W) => hcl 2 (by omega) W hW
  have r1 := hx.get 1
  have r2 := hx.get 2
  have r3 := ofB_range (cutL_byt hx 3 4)
  have r4 := ofB_range (cutL_byt hx 7 2)
  rw [cutL_len (by omega)] at r3 r4
  rw [hc2] at C2 r4
  unfold headF
  obtain ⟨y1, e1⟩ : ∃ y, xs.getD 1 0 = y := ⟨_, rfl⟩
  obtain ⟨y2, e2⟩ : ∃ y, xs.getD 2 0 = y := ⟨_, rfl⟩
  obtain ⟨y3, e3⟩ : ∃ y, ofB (cutL xs 3 4) = y := ⟨_, rfl⟩
  obtain ⟨y4, e4⟩ : ∃ y, cntF xs = y := ⟨_, rfl⟩
  rw [e1] at g1 r1 ⊢
  rw [e2] at g2 r2 ⊢
  rw [e3] at C1 r3 ⊢
  rw [e4] at C2 r4 ⊢
  have r3 : 0 ≤ y3 ∧ y3 < 4294967296 := r3
  have r4 : 0 ≤ y4 ∧ y4 < 65536 := r4
  have hs1 := fun W => slice8_run b off 9 cap 3 7 (by omega) (by omega) (by omega) W
  have hs2 := fun W => slice8_run' b off 9 cap 3 7 (by omega) (by omega) (by omega) W
  have hZ := hid (Blk.new w 25 #[.int .i64 0, .int .i64 0, .int .u32 0, .slice none 0 0])
  clear hv hcl hx hc2 e1 e2 e3 e4
  unfold frmV
  show Calls _ _ _ _ (Ret (.tuple #[.agg #[.int .i64 y1, .int .i64 y2, .int .u32 y3, .slice none 0 0], .int .i64 y4]) w)
  have g1' := g1.out _ (((Ext.refl w).alloc (.cells #[.int .i64 0, .int .i64 0, .int .u32 0, .slice none 0 0] 25)).drew.drew)
  have g2' := g2.out _ (((Ext.refl w).alloc (.cells #[.int .i64 0, .int .i64 0, .int .u32 0, .slice none 0 0] 25)).drew.drew)
  have hmx : Try.prog.follows .mixedOrders = true := by kernel_rfl
  go_enter Try.func21, Try.ntmps21
  go_wp2_with fail
  go_quiet (fail)
  go_wp2_with fail
  refine wp_region_held_drew (S := fun W' => Ext w W') hmx (by repeat (first | exact Ext.refl _ | assumption | refine Ext.drew ?_ | refine Ext.drewN ?_ _ | refine Ext.alloc ?_ _ | refine Ext.trans ?_ (by assumption))) (fun hHeld => ?_)
  refine wpAnyH_take (i := 0) (v := .slice (some ⟨b, off, none⟩) 9 cap) rfl (by kernel_rfl) (by kernel_rfl) (by kernel_rfl) (fun _ _ _ h => h) (Or.inl ⟨by rfl, ?_⟩) hHeld ?_
  · intro W' hSw
    have q1 := g1.out _ hSw
    have q2 := g2.out _ hSw
    go_simp
    try first | exact wr_i (by omega) | exact wr_u (by omega)
  refine wpAnyH_take (i := 1) (v := .pointer (some ⟨b, off + 1, none⟩)) rfl (by kernel_rfl) (by kernel_rfl) (by kernel_rfl) (fun _ _ _ h => h) (Or.inl ⟨by rfl, ?_⟩) hHeld ?_
  · intro W' hSw
    have q1 := g1.out _ hSw
    have q2 := g2.out _ hSw
    go_simp
    try first | exact wr_i (by omega) | exact wr_u (by omega)
  refine wpAnyH_take (i := 2) (v := .int .u8 y1) rfl (by kernel_rfl) (by kernel_rfl) (by kernel_rfl) (fun _ _ _ h => h) (Or.inl ⟨by rfl, ?_⟩) hHeld ?_
  · intro W' hSw
    have q1 := g1.out _ hSw
    have q2 := g2.out _ hSw
    go_simp
    try first | exact wr_i (by omega) | exact wr_u (by omega)
  refine wpAnyH_take (i := 3) (v := .int .i64 y1) rfl (by kernel_rfl) (by kernel_rfl) (by kernel_rfl) (fun _ _ _ h => h) (Or.inl ⟨by rfl, ?_⟩) hHeld ?_
  · intro W' hSw
    have q1 := g1.out _ hSw
    have q2 := g2.out _ hSw
    go_simp
    try first | exact wr_i (by omega) | exact wr_u (by omega)
  refine wpAnyH_take (i := 4) (v := .slice (some ⟨b, off, none⟩) 9 cap) rfl (by kernel_rfl) (by kernel_rfl) (by kernel_rfl) (fun _ _ _ h => h) (Or.inl ⟨by rfl, ?_⟩) hHeld ?_
  · intro W' hSw
    have q1 := g1.out _ hSw
    have q2 := g2.out _ hSw
    go_simp
    try first | exact wr_i (by omega) | exact wr_u (by omega)
  refine wpAnyH_take (i := 5) (v := .pointer (some ⟨b, off + 2, none⟩)) rfl (by kernel_rfl) (by kernel_rfl) (by kernel_rfl) (fun _ _ _ h => h) (Or.inl ⟨by rfl, ?_⟩) hHeld ?_
  · intro W' hSw
    have q1 := g1.out _ hSw
    have q2 := g2.out _ hSw
    go_simp
    try first | exact wr_i (by omega) | exact wr_u (by omega)
  refine wpAnyH_take (i := 6) (v := .int .u8 y2) rfl (by kernel_rfl) (by kernel_rfl) (by kernel_rfl) (fun _ _ _ h => h) (Or.inl ⟨by rfl, ?_⟩) hHeld ?_
  · intro W' hSw
    have q1 := g1.out _ hSw
    have q2 := g2.out _ hSw
    go_simp
    try first | exact wr_i (by omega) | exact wr_u (by omega)
  refine wpAnyH_take (i := 7) (v := .int .i64 y2) rfl (by kernel_rfl) (by kernel_rfl) (by kernel_rfl) (fun _ _ _ h => h) (Or.inl ⟨by rfl, ?_⟩) hHeld ?_
  · intro W' hSw
    have q1 := g1.out _ hSw
    have q2 := g2.out _ hSw
    go_simp
    try first | exact wr_i (by omega) | exact wr_u (by omega)
  refine wpAnyH_take (i := 8) (v := .slice (some ⟨b, off + 3, none⟩) 4 (cap - 3)) rfl (by kernel_rfl) (by kernel_rfl) (by kernel_rfl) (fun _ _ _ h => h) (Or.inl ⟨by rfl, ?_⟩) hHeld ?_
  · intro W' hSw
    have q1 := g1.out _ hSw
    have q2 := g2.out _ hSw
    go_simp
    try first | exact wr_i (by omega) | exact wr_u (by omega)
  refine wpAnyH_take (i := 12) (v := .slice (some ⟨b, off + 7, none⟩) 2 (cap - 7)) rfl (by kernel_rfl) (by kernel_rfl) (by kernel_rfl) (fun _ _ _ h => h) (Or.inl ⟨by rfl, ?_⟩) hHeld ?_
  · intro W' hSw
    have q1 := g1.out _ hSw
    have q2 := g2.out _ hSw
    go_simp
    try first | exact wr_i (by omega) | exact wr_u (by omega)
  refine held_step 9 (by kernel_rfl) rfl (fun K hK => ?_)
  go_simp
  go_wp2_with fail
  refine (C1.out _ hHeld).mono ?_
  rintro _ _ ⟨rfl, rfl⟩
  go_wp2_with fail
  refine hK.out _ _ hHeld (fun hHeld => ?_)
  clear hK K
  refine wpAnyH_take (i := 10) (v := .int .u32 y3) rfl (by kernel_rfl) (by kernel_rfl) (by kernel_rfl) (fun _ _ _ h => h) (Or.inl ⟨by rfl, ?_⟩) hHeld ?_
  · intro W' hSw
    have q1 := g1.out _ hSw
    have q2 := g2.out _ hSw
    go_simp
    try first | exact wr_i (by omega) | exact wr_u (by omega)
  refine wpAnyH_take (i := 11) (v := .agg #[.int .i64 y1, .int .i64 y2, .int .u32 y3, .slice none 0 0]) rfl (by kernel_rfl) (by kernel_rfl) (by kernel_rfl) (fun _ _ _ h => h) (Or.inl ⟨by rfl, ?_⟩) hHeld ?_
  · intro W' hSw
    have q1 := g1.out _ hSw
    have q2 := g2.out _ hSw
    go_simp
    try first | exact wr_i (by omega) | exact wr_u (by omega)
  refine held_step 13 (by kernel_rfl) rfl (fun K hK => ?_)
  go_simp
  go_wp2_with fail
  refine (C2.out _ hHeld).mono ?_
  rintro _ _ ⟨rfl, rfl⟩
  go_wp2_with fail
  refine hK.out _ _ hHeld (fun hHeld => ?_)
  clear hK K
  refine wpAnyH_take (i := 14) (v := .int .i64 y4) rfl (by kernel_rfl) (by kernel_rfl) (by kernel_rfl) (fun _ _ _ h => h) (Or.inl ⟨by rfl, ?_⟩) hHeld ?_
  · intro W' hSw
    have q1 := g1.out _ hSw
    have q2 := g2.out _ hSw
    go_simp
    try first | exact wr_i (by omega) | exact wr_u (by omega)
  refine held_step 15 (by kernel_rfl) rfl (fun K hK => ?_)
  go_simp
  refine hK.out _ _ (Ext.put4 hHeld (Nat.le_refl _) _ _ _ _) (fun hHeld => ?_)
  clear hK K
  refine wpAnyH_take (i := 16) (v := .int .i64 y4) rfl (by kernel_rfl) (by kernel_rfl) (by kernel_rfl) (fun _ _ _ h => h) (Or.inl ⟨by rfl, ?_⟩) hHeld ?_
  · intro W' hSw
    have q1 := g1.out _ hSw
    have q2 := g2.out _ hSw
    go_simp
    try first | exact wr_i (by omega) | exact wr_u (by omega)
  refine wpAnyH_done (by kernel_rfl) ?_ _
  go_wp2_with fail
  refine bodyPost_ret (results_cell_tmp rfl _ _ w.heap.size 25 _ (0, 0) _ rfl ((hZ.out.ext ((Ext.refl _).drewN _)).put4 _ _ _ _) Try.underlying25 rfl (by kernel_rfl)) rfl ?_
  exact ⟨rfl, hHeld⟩
end Go.Proofs.Yticabjdcegimcaa
