/- Package matrix, thin matrices: Thin. -/
import Derived.Test.YtlociefncogjeaaMxA
import Derived.Test.YtlociefncogjeaaMatT
import Derived.Test.YtlociefncogjeaaMx3
import Derived.Maps.AppendAt
namespace Go.Proofs.Ytlociefncogjeaa
open Go.RowKit Go.Maps

theorem info_intp : (Try.prog.info? 3).map (fun i => (i.zero, i.size, i.bytes)) = some (some (.int .i64 0), 1, 8) := by kernel_rfl
/-- a row of the call's own, as it reads -/
theorem of_own {k : IntKind} {e : TypeId} {w : World} {base n : Nat} {v : Value} {xs : List Int} (h : w.ownsRow base e 1 v n (xs.map (Value.int k))) :
    ∃ a cap, v = .slice a n cap ∧ n ≤ cap ∧ cap ≤ 9223372036854775807 ∧ xs.length = n ∧ Ints k w v xs := by
  have hl : xs.length = n := by have := h.1; simpa using this
  have h0 := h
  obtain ⟨_, ⟨rfl, h1⟩ | ⟨g, cap, cur, rfl, hg, hb, hc1, hc2, hs, ht⟩⟩ := h
  · obtain rfl : n = 0 := by simpa using h1
    obtain rfl : xs = [] := List.eq_nil_of_length_eq_zero hl
    exact ⟨none, 0, rfl, by omega, by omega, rfl, Ints.nil⟩
  · have hc : cap ≤ 9223372036854775807 := by simpa [maxLen] using hc2
    refine ⟨_, cap, rfl, hc1, hc, hl, ⟨_, cap, by rw [hl], by omega, hc, fun hp => ⟨g, 0, rfl, Blk.lt (t := e) (cs := cur) hb, fun j hj => ?_⟩⟩⟩
    rw [Nat.zero_add, h0.cellAt j (by omega)]
    simp [hj, List.getD]
theorem own_setg {e : TypeId} {w : World} {base g n : Nat} {v : Value} {xs : List Value} {ty : TypeId} {cs : Array Value} (h : w.ownsRow base e 1 v n xs) (hB : Blk w g ty cs) (hty : e ≠ ty) (i : Nat) (u : Value) : (w.setCell ⟨g, i, none⟩ u).ownsRow base e 1 v n xs :=
  h.kept (setCell_grown _ _ _) (ownsRow_blk h hB hty)
/-- a thin matrix under way -/
structure Thn (w0 w : World) (base h : Nat) (m n : Int) (vb vc vv : Value) (bs cs vs : List Int) : Prop where
  box : Blk w h 28 #[.int .i64 m, .int .i64 n, vb, vc, vv]
  ob : w.ownsRow base 3 1 vb bs.length (bs.map (Value.int .i64))
  oc : w.ownsRow base 3 1 vc cs.length (cs.map (Value.int .i64))
  ov : w.ownsRow base 22 1 vv vs.length (vs.map (Value.int .u64))
  ap : ∀ k, vb.ownBlock = some k → vc.ownBlock ≠ some k
  ext : Ext w0 w
  hb : w0.heap.size ≤ base
  hh : w0.heap.size ≤ h
theorem Thn.ext' {w0 w w' : World} {base h : Nat} {m n : Int} {vb vc vv : Value} {bs cs vs : List Int} (t : Thn w0 w base h m n vb vc vv bs cs vs) (y : Ext w w') : Thn w0 w' base h m n vb vc vv bs cs vs :=
  ⟨t.box.ext y, ownsRow_ext t.ob y, ownsRow_ext t.oc y, ownsRow_ext t.ov y, t.ap, t.ext.trans y, t.hb, t.hh⟩
theorem off_box {e : TypeId} {w : World} {base n h : Nat} {v : Value} {xs : List Value} {ty : TypeId} {cs : Array Value} (o : w.ownsRow base e 1 v n xs) (hB : Blk w h ty cs) (hty : e ≠ ty) : v.ownBlock ≠ some h := by
  rcases ownsRow_blk o hB hty with e | e
  · rw [e]; simp
  · exact e
theorem off_row {o : Option Nat} {v : Value} (h : ∀ k, v.ownBlock = some k → o ≠ some k) : v.ownBlock = none ∨ v.ownBlock ≠ o := by
  cases e : v.ownBlock with
  | none => exact .inl rfl
  | some k => exact .inr fun e2 => h k e e2.symm
/-- the box behind an append -/
theorem Thn.boxC {w0 w w' : World} {base h : Nat} {m n : Int} {vb vc vv : Value} {bs cs vs : List Int} (t : Thn w0 w base h m n vb vc vv bs cs vs) (hg : w.grownBy w' vc.ownBlock) : Blk w' h 28 #[.int .i64 m, .int .i64 n, vb, vc, vv] := t.box.grown hg (off_box t.oc t.box (by decide))
theorem Thn.boxV {w0 w w' : World} {base h : Nat} {m n : Int} {vb vc vv : Value} {bs cs vs : List Int} (t : Thn w0 w base h m n vb vc vv bs cs vs) (hg : w.grownBy w' vv.ownBlock) : Blk w' h 28 #[.int .i64 m, .int .i64 n, vb, vc, vv] := t.box.grown hg (off_box t.ov t.box (by decide))
theorem Thn.boxB {w0 w w' : World} {base h : Nat} {m n : Int} {vb vc vv : Value} {bs cs vs : List Int} (t : Thn w0 w base h m n vb vc vv bs cs vs) (hg : w.grownBy w' vb.ownBlock) : Blk w' h 28 #[.int .i64 m, .int .i64 n, vb, vc, vv] := t.box.grown hg (off_box t.ob t.box (by decide))
theorem Thn.addC {w0 w w' : World} {base h : Nat} {m n : Int} {vb vc vv v' : Value} {bs cs cs' vs : List Int} (t : Thn w0 w base h m n vb vc vv bs cs vs) (hown : w'.ownsRow base 3 1 v' cs'.length (cs'.map (Value.int .i64))) (hg : w.grownBy w' vc.ownBlock) (hat : v'.ownBlock = vc.ownBlock ∨ v'.ownBlock = some w.heap.size) :
    Thn w0 (w'.setCell ⟨h, 3, none⟩ v') base h m n vb v' vv bs cs' vs :=
  have hB := t.boxC hg
  ⟨hB.set_ 3 v', own_setg (t.ob.kept hg (off_row fun k e => t.ap k e)) hB (by decide) 3 v', own_setg hown hB (by decide) 3 v',
    own_setg (t.ov.kept hg (ownsRow_apart t.ov t.oc (by decide))) hB (by decide) 3 v',
    fun k e => by
      rcases hat with h2 | h2
      · rw [h2]; exact t.ap k e
      · rw [h2]; intro e2; injection e2 with e2; have := (t.ob.lt k e).2; omega,
    (t.ext.grown hg fun k e => Nat.le_trans t.hb (t.oc.lt k e).1).setCell t.hh _, t.hb, t.hh⟩
theorem Thn.addB {w0 w w' : World} {base h : Nat} {m n : Int} {vb vc vv v' : Value} {bs bs' cs vs : List Int} (t : Thn w0 w base h m n vb vc vv bs cs vs) (hown : w'.ownsRow base 3 1 v' bs'.length (bs'.map (Value.int .i64))) (hg : w.grownBy w' vb.ownBlock) (hat : v'.ownBlock = vb.ownBlock ∨ v'.ownBlock = some w.heap.size) :
    Thn w0 (w'.setCell ⟨h, 2, none⟩ v') base h m n v' vc vv bs' cs vs :=
  have hB := t.boxB hg
  ⟨hB.set_ 2 v', own_setg hown hB (by decide) 2 v', own_setg (t.oc.kept hg (off_row fun k e e2 => t.ap k e2 e)) hB (by decide) 2 v',
    own_setg (t.ov.kept hg (ownsRow_apart t.ov t.ob (by decide))) hB (by decide) 2 v',
    fun k e => by
      rcases hat with h2 | h2
      · rw [h2] at e; exact t.ap k e
      · rw [h2] at e; injection e with e; intro e2; have := (t.oc.lt k e2).2; omega,
    (t.ext.grown hg fun k e => Nat.le_trans t.hb (t.ob.lt k e).1).setCell t.hh _, t.hb, t.hh⟩
theorem Thn.addV {w0 w w' : World} {base h : Nat} {m n : Int} {vb vc vv v' : Value} {bs cs vs vs' : List Int} (t : Thn w0 w base h m n vb vc vv bs cs vs) (hown : w'.ownsRow base 22 1 v' vs'.length (vs'.map (Value.int .u64))) (hg : w.grownBy w' vv.ownBlock) :
    Thn w0 (w'.setCell ⟨h, 4, none⟩ v') base h m n vb vc v' bs cs vs' :=
  have hB := t.boxV hg
  ⟨hB.set_ 4 v', own_setg (t.ob.kept hg (ownsRow_apart t.ob t.ov (by decide))) hB (by decide) 4 v', own_setg (t.oc.kept hg (ownsRow_apart t.oc t.ov (by decide))) hB (by decide) 4 v',
    own_setg hown hB (by decide) 4 v', t.ap, (t.ext.grown hg fun k e => Nat.le_trans t.hb (t.ov.lt k e).1).setCell t.hh _, t.hb, t.hh⟩
/-- the answer's box is told a thin matrix -/
theorem fin5 {w wv : World} {g : Nat} {x y z u v : Value} (hR : Blk w g 28 #[x, y, z, u, v]) (hv : Ext wv w) (hg : wv.heap.size ≤ g) (a b c d e : Value) :
    Blk (((((w.setCell ⟨g, 0, none⟩ a).setCell ⟨g, 1, none⟩ b).setCell ⟨g, 2, none⟩ c).setCell ⟨g, 3, none⟩ d).setCell ⟨g, 4, none⟩ e) g 28 #[a, b, c, d, e] ∧ Ext wv (((((w.setCell ⟨g, 0, none⟩ a).setCell ⟨g, 1, none⟩ b).setCell ⟨g, 2, none⟩ c).setCell ⟨g, 3, none⟩ d).setCell ⟨g, 4, none⟩ e) :=
  ⟨((((hR.set_ 0 a).set_ 1 b).set_ 2 c).set_ 3 d).set_ 4 e, ((((hv.setCell (p := ⟨g, 0, none⟩) hg a).setCell (p := ⟨g, 1, none⟩) hg b).setCell (p := ⟨g, 2, none⟩) hg c).setCell (p := ⟨g, 3, none⟩) hg d).setCell (p := ⟨g, 4, none⟩) hg e⟩
theorem own_set5 {ty : TypeId} {w : World} {base g n : Nat} {k : IntKind} {v : Value} {xs : List Int} {cs : Array Value} (h : w.ownsRow base ty 1 v n (xs.map (Value.int k))) (hB : Blk w g 28 cs) (hty : ty ≠ 28) (a b c d e : Value) :
    Ints k (((((w.setCell ⟨g, 0, none⟩ a).setCell ⟨g, 1, none⟩ b).setCell ⟨g, 2, none⟩ c).setCell ⟨g, 3, none⟩ d).setCell ⟨g, 4, none⟩ e) v xs := by
  have h1 := own_setg h hB hty 0 a
  have B1 := hB.set_ 0 a
  have h2 := own_setg h1 B1 hty 1 b
  have B2 := B1.set_ 1 b
  have h3 := own_setg h2 B2 hty 2 c
  have B3 := B2.set_ 2 c
  have h4 := own_setg h3 B3 hty 3 d
  have B4 := B3.set_ 3 d
  obtain ⟨_, _, _, _, _, _, hI⟩ := of_own (own_setg h4 B4 hty 4 e)
  exact hI
def noSp : Value := .tuple #[.agg #[.int .i64 0, .int .i64 0, .slice none 0 0, .slice none 0 0, .slice none 0 0], .int .i64 1]
def RetSp (m n : Int) (bs cs vs : List Int) (w : World) (e : Ending) (w' : World) : Prop := ∃ vb vc vv, e = .returned (.tuple #[spV m n vb vc vv, .int .i64 0]) ∧ Ints .i64 w' vb bs ∧ Ints .i64 w' vc cs ∧ Ints .u64 w' vv vs ∧ Ext w w'
theorem own_lit {w : World} {t : TypeId} {g : Nat} (hg : g = w.heap.size) (x : Int) : (w.alloc (.cells #[.int .i64 x] t)).ownsRow g t 1 (.slice (some ⟨g, 0, none⟩) 1 1) 1 ([x].map (Value.int .i64)) := by
  subst hg
  exact ⟨rfl, .inr ⟨w.heap.size, 1, #[.int .i64 x], rfl, Nat.le_refl _, heap_alloc_new w _, Nat.le_refl _, by simp [maxLen], rfl, rfl⟩⟩
theorem boxesT (w : World) (t t' : TypeId) (A B : Array Value) :
    Blk ((w.alloc (.cells A t)).alloc (.cells B t')) w.heap.size t A ∧ Blk ((w.alloc (.cells A t)).alloc (.cells B t')) (w.heap.size + 1) t' B ∧ Ext w ((w.alloc (.cells A t)).alloc (.cells B t')) :=
  boxes2 w t t' A B

set_option maxHeartbeats 400000 in
theorem mxThin_no (p r c : Int) (v : Value) (xs : List Int) (w : World) (h0 : 0 ≤ p) (h1 : p ≤ 18446744073709551615) (hv : Ints .u64 w v xs) (hx : U64s xs) (h : matB p r c xs = false) :
    Calls Try.prog 16 #[.int .u64 p, matV r c v] w (Ret noSp w) := by
  have C1 := hid fun (W : World) (hW : Ext w W) => mxRight p r c v xs W h0 h1 (hv.ext hW) hx
  rw [h] at C1
  unfold matV at C1
  unfold matV noSp
  have hb2 := hid (boxes2 w 25 28 #[.int .i64 r, .int .i64 c, v] #[.int .i64 0, .int .i64 0, .slice none 0 0, .slice none 0 0, .slice none 0 0])
  obtain ⟨a, cap, rfl, k1, k2, k3⟩ := hv
  clear k3 hx h
  go_enter Try.func16, Try.ntmps16
  go_wp2_with (go_at_call 17; refine (C1.out _ (by repeat (first | exact Ext.refl _ | assumption | refine Ext.drew ?_ | refine Ext.drewN ?_ _ | refine Ext.alloc ?_ _ | refine Ext.trans ?_ (by assumption)))).mono ?_; rintro _ w1 ⟨rfl, x1⟩; have HR := hid (hb2.out.2.1.ext x1); have HE := hid (hb2.out.2.2.trans x1); obtain ⟨b0, b1, b2, b3, b4⟩ := HR.out.at5; have f0 := HR.out.frozen 0; have f1 := HR.out.frozen 1; have f2 := HR.out.frozen 2; have f3 := HR.out.frozen 3; have f4 := HR.out.frozen 4)
  have F := fin5 HR.out HE.out (by omega) (.int .i64 0) (.int .i64 0) (.slice none 0 0) (.slice none 0 0) (.slice none 0 0)
  refine bodyPost_ret (results_cell_row_tmp rfl _ _ (w.heap.size + 1) 28 _ (0, 0) _ rfl F.1 Try.underlying28 rfl (by kernel_rfl)) rfl ?_
  exact ⟨rfl, F.2⟩

set_option maxRecDepth 100000 in
set_option maxHeartbeats 2000000 in
theorem mxThin_yes (p : Int) (m n : Nat) (v : Value) (xs : List Int) (w : World) (ok : MatOk p m n xs) (hv : Ints .u64 w v xs) :
    Calls Try.prog 16 #[.int .u64 p, matV m n v] w (RetSp m n (thB xs m n) (thC xs n (m * n)) (thV xs (m * n)) w) := by
  have hp2 := rightB_true ok.hp
  obtain ⟨iu, hiu, hu0, hu1, hu2⟩ := info_parts info_u64p
  obtain ⟨ii, hii, hi0, hi1, hi2⟩ := info_parts info_intp
  have C1 := hid fun (W : World) (hW : Ext w W) => mxRight p m n v xs W (by omega) (by omega) (hv.ext hW) ok.u64
  rw [ok.b] at C1
  have Ok := hid ok
  have hm := ok.hm; have hn := ok.hn
  obtain ⟨a, cap, rfl, k1, k2, k3⟩ := hv
  obtain ⟨b, off, rfl, hb, k4⟩ := k3 ok.pos
  have K := hid k4
  have hcap := hid fun (i : Nat) (h : i < m) => Nat.le_trans (ok.at_ h) k1
  have hmn : m * n ≤ 4096 := Nat.mul_le_mul hm.2 hn.2
  have hnz := hid fun (i j : Nat) (hi : i < m) (hj : j ≤ n) => (show (thC xs n (i * n + j)).length ≤ 4096 ∧ (thV xs (i * n + j)).length ≤ 4096 by
    have h1 := nz_len xs (i * n + j)
    have h2 : i * n + n ≤ m * n := by rw [← Nat.succ_mul]; exact Nat.mul_le_mul_right _ hi
    rw [thC_len]
    unfold nz at h1
    omega)
  clear k3 k4 ok hmn
  have hb2 := hid (boxes2 w 25 28 #[.int .i64 (m : Int), .int .i64 (n : Int), .slice (some ⟨b, off, none⟩) xs.length cap] #[.int .i64 0, .int .i64 0, .slice none 0 0, .slice none 0 0, .slice none 0 0])
  unfold matV at C1
  unfold matV
  go_enter Try.func16, Try.ntmps16
  go_wp2_with (go_at_call 17; refine (C1.out _ (by repeat (first | exact Ext.refl _ | assumption | refine Ext.drew ?_ | refine Ext.drewN ?_ _ | refine Ext.alloc ?_ _ | refine Ext.trans ?_ (by assumption)))).mono ?_; rintro _ w1 ⟨rfl, x1⟩; have HA := hid (hb2.out.1.ext x1); have HR := hid (hb2.out.2.1.ext x1); have HE := hid (hb2.out.2.2.trans x1); obtain ⟨b0, b1, b2⟩ := HA.out.at3
               obtain ⟨c0, c1, c2⟩ := (HA.out.ext ((Ext.refl w1).alloc (.cells #[.int .i64 0] 3))).at3
               obtain ⟨d0, d1, d2⟩ := (HA.out.ext (((Ext.refl w1).alloc (.cells #[.int .i64 0] 3)).alloc (.cells #[.int .i64 (m : Int), .int .i64 (n : Int), .slice (some ⟨w1.heap.size, 0, none⟩) 1 1, .slice none 0 0, .slice none 0 0] 28))).at3)
  have HT := hid (show Thn w1 ((w1.alloc (.cells #[.int .i64 0] 3)).alloc (.cells #[.int .i64 (m : Int), .int .i64 (n : Int), .slice (some ⟨w1.heap.size, 0, none⟩) 1 1, .slice none 0 0, .slice none 0 0] 28)) w1.heap.size (w1.heap.size + 1) m n (.slice (some ⟨w1.heap.size, 0, none⟩) 1 1) (.slice none 0 0) (.slice none 0 0) [0] [] [] from
    ⟨Blk.at_ (by rw [alloc_size]), ownsRow_ext (own_lit rfl 0) ((Ext.refl _).alloc _), World.ownsRow_nil _ _ _ _, World.ownsRow_nil _ _ _ _, fun _ _ e => by simp [Value.ownBlock] at e, ((Ext.refl w1).alloc _).alloc _, Nat.le_refl _, by omega⟩)
  clear b0 b1 b2 c0 c1 c2 d0 d1 d2
  obtain ⟨w3, hw3⟩ : ∃ w3, (w1.alloc (.cells #[.int .i64 0] 3)).alloc (.cells #[.int .i64 (m : Int), .int .i64 (n : Int), .slice (some ⟨w1.heap.size, 0, none⟩) 1 1, .slice none 0 0, .slice none 0 0] 28) = w3 := ⟨_, rfl⟩
  rw [hw3] at HT
  rw [hw3]
  have hR1 := HR.out.lt
  have hA1 := HA.out.lt
  obtain ⟨h, hh⟩ : ∃ h, w1.heap.size + 1 = h := ⟨_, rfl⟩
  obtain ⟨G, hG⟩ : ∃ h, w1.heap.size = h := ⟨_, rfl⟩
  rw [hG] at hR1 hA1
  rw [hh, hG] at HT
  rw [hh, hG]
  obtain ⟨gR, hgR⟩ : ∃ gR, w.heap.size + 1 = gR := ⟨_, rfl⟩
  have hgw : w.heap.size ≤ gR := by omega
  rw [hgR] at HR hR1
  rw [hgR]
  obtain ⟨gA, hgA⟩ : ∃ gA, w.heap.size = gA := ⟨_, rfl⟩
  rw [hgA] at HA hA1
  rw [hgA]
  have hGw : G ≤ w3.heap.size := by rw [← hG]; exact HT.out.ext.size
  clear hgR hgA hw3 hb2
  go_loopw [23] (fun iv wr => ∃ (i : Nat) (vb vc vv : Value), iv = .int .i64 i ∧ i ≤ m ∧ Hid (Thn w1 wr G h m n vb vc vv (tab (i + 1) fun r => (nz xs (r * n) : Int)) (thC xs n (i * n)) (thV xs (i * n)))) (fun iv _ => m - (intOf iv).toNat)
  case atStart =>
    have e0 : tab (0 + 1) (fun r => (nz xs (r * n) : Int)) = [0] := by simp [tab, nz, thV]
    refine ⟨0, .slice (some ⟨G, 0, none⟩) 1 1, .slice none 0 0, .slice none 0 0, rfl, Nat.zero_le _, ?_⟩
    rw [e0, Nat.zero_mul]
    exact HT
  case round =>
    clear HT
    obtain ⟨i, vb, vc, vv, rfl, hi, HT⟩ := hrel
    obtain ⟨b0, b1, b2⟩ := (HA.out.ext HT.out.ext).at3
    by_cases hlt : i < m
    · have hck := hcap.out i hlt
      have hcells := fun (j : Nat) (hj : j < n) => K.out (i * n + j) (by have := Ok.out.at_ hlt; omega)
      go_wp2_with fail
      refine (mxRow (m : Int) (n : Int) n i b off xs.length cap wr rfl hn (by omega) hck k2).mono ?_
      rintro _ w4 ⟨rfl, x4⟩
      simp only [← Nat.add_assoc] at hcells
      obtain ⟨o, ho⟩ : ∃ o, off + i * n = o := ⟨_, rfl⟩
      obtain ⟨cp, hcp⟩ : ∃ cp, cap - i * n = cp := ⟨_, rfl⟩
      rw [ho] at hcells
      rw [ho, hcp]
      have hcpn : n ≤ cp := by omega
      have hcpb : cp ≤ 9223372036854775807 := by omega
      have HC := hid hcells
      clear ho hcp hck hcells b0 b1 b2
      obtain ⟨q, hq⟩ : ∃ q, i * n = q := ⟨_, rfl⟩
      have Hq := hid hq
      rw [hq] at HT HC
      have hnzi := hid fun j hj => hnz.out i j hlt hj
      rw [hq] at hnzi
      clear hq
      go_wp2_with fail
      go_loopw [30] (fun jv wr => ∃ (j : Nat) (vb vc vv : Value), jv = .int .i64 j ∧ j ≤ n ∧ Hid (Thn w1 wr G h m n vb vc vv (tab (i + 1) fun r => (nz xs (r * n) : Int)) (thC xs n (q + j)) (thV xs (q + j)))) (fun jv _ => n - (intOf jv).toNat)
      case atStart => exact ⟨0, vb, vc, vv, rfl, Nat.zero_le _, hid (HT.out.ext' x4)⟩
      case round =>
        clear HT
        obtain ⟨j, vb, vc, vv, rfl, hj, HT⟩ := hrel
        rename World => wi
        by_cases hlj : j < n
        · have gx := ((HE.out.trans HT.out.ext).cells _ _ hb).trans (HC.out j hlj)
          have hmod := hid (show ((q + j) % n : Nat) = j by rw [← Hq.out]; exact at_mod hlj)
          obtain ⟨t, ht⟩ : ∃ t, q + j = t := ⟨_, rfl⟩
          have hbd := hnzi.out j (by omega)
          rw [ht] at gx HT hmod hbd
          obtain ⟨x, ex⟩ : ∃ x, xs.getD t 0 = x := ⟨_, rfl⟩
          rw [ex] at gx
          have hC1 := hid (show thC xs n (t + 1) = if x = 0 then thC xs n t else thC xs n t ++ [(j : Int)] by rw [thC, ex, hmod.out])
          have hV1 := hid (show thV xs (t + 1) = if x = 0 then thV xs t else thV xs t ++ [x] by rw [thV, ex])
          have Ht := hid (show q + (j + 1) = t + 1 by omega)
          clear ht ex hmod
          by_cases hx0 : x = 0
          · have t0 : (x != 0) = false := by simp [hx0]
            have e1 := hid (hC1.out.trans (if_pos hx0))
            have e2 := hid (hV1.out.trans (if_pos hx0))
            clear hx0 hC1 hV1
            go_wp2_with fail
            go_roundw
            case rel => exact ⟨j + 1, vb, vc, vv, by go_num, by omega, by rw [Ht.out, e1.out, e2.out]; exact HT⟩
            case measure => simp [intOf]; omega
          · have t0 : (x != 0) = true := by simp [hx0]
            have e1 := hid (hC1.out.trans (if_neg hx0))
            have e2 := hid (hV1.out.trans (if_neg hx0))
            clear hx0 hC1 hV1
            obtain ⟨C, hC⟩ : ∃ C, thC xs n t = C := ⟨_, rfl⟩
            obtain ⟨V, hV⟩ : ∃ V, thV xs t = V := ⟨_, rfl⟩
            rw [hC] at HT e1 hbd
            rw [hV] at HT e2 hbd
            obtain ⟨lc, hlc⟩ : ∃ l, C.length = l := ⟨_, rfl⟩
            obtain ⟨lv, hlv⟩ : ∃ l, V.length = l := ⟨_, rfl⟩
            have hoc := HT.out.oc
            have hov := HT.out.ov
            rw [hlc] at hoc hbd
            rw [hlv] at hov hbd
            have Hlc := hid hlc; have Hlv := hid hlv
            have hGi : G ≤ wi.heap.size := by rw [← hG]; exact HT.out.ext.size
            have hlc2 := hid (show (C ++ [(j : Int)]).length = lc + 1 by rw [List.length_append, hlc]; rfl)
            have hlv2 := hid (show (V ++ [x]).length = lv + 1 by rw [List.length_append, hlv]; rfl)
            have hmc := hid (show C.map (Value.int .i64) ++ [Value.int .i64 (j : Int)] = (C ++ [(j : Int)]).map (Value.int .i64) by rw [List.map_append]; rfl)
            have hmv := hid (show V.map (Value.int .u64) ++ [Value.int .u64 x] = (V ++ [x]).map (Value.int .u64) by rw [List.map_append]; rfl)
            have Hoc := hid hoc
            obtain ⟨p0, p1, p2, p3, p4⟩ := HT.out.box.at5
            clear hC hV hlc hlv hoc hov
            have y1 := (Ext.refl wi).alloc (.cells #[.int .i64 (j : Int)] 3)
            have HT1 := hid (HT.out.ext' y1)
            go_wp2_with (first
              | (at_builtin
                 refine wpList_append_own_at _ rfl _ _ 26 rfl G 3 ii (.int .i64 0) 1 8 Try.underlying26 hii hi0 hi1 hi2 rfl (by decide) vc lc _ rfl (Hoc.out.alloc _) ⟨wi.heap.size, 0, none⟩ 1 1 [.int .i64 (j : Int)] rfl rfl (cells_new _ _ _ (by simp)) (by simp [Value.oneCell']) (by simp only [maxLen]; omega) (by omega) (by simp; omega) ?_
                 intro v6 w6 hown6 hgrow6 hnil6 hat6
                 rw [hmc.out] at hown6
                 have hb6 := HT1.out.boxC hgrow6
                 have hT6 := HT1.out.addC (show w6.ownsRow G 3 1 v6 (C ++ [(j : Int)]).length _ by rw [hlc2.out]; exact hown6) hgrow6 hat6
                 have T6 := hid hT6
                 obtain ⟨a6, c6, rfl, z2, z3, z4, z5⟩ := of_own hown6
                 obtain ⟨q0, q1, q2, q3, q4⟩ := hb6.at5
                 have f3 := hb6.frozen 3
                 obtain ⟨r0, r1, r2, r3, r4⟩ := T6.out.box.at5
                 have hov6 := T6.out.ov
                 rw [Hlv.out] at hov6
                 have Hov6 := hid hov6
                 have HT7 := hid (T6.out.ext' ((Ext.refl _).alloc (.cells #[.int .u64 x] 22)))
                 have hG6 : G ≤ w6.heap.size := Nat.le_trans hGi (Nat.le_trans (by simp) hgrow6.size)
                 clear z5 z4 hown6 hb6 hT6 hov6 hnil6 hat6)
              | (at_builtin
                 refine wpList_append_own_at _ rfl _ _ 23 rfl G 22 iu (.int .u64 0) 1 8 Try.underlying23 hiu hu0 hu1 hu2 rfl (by decide) vv lv _ rfl (Hov6.out.alloc _) ⟨_, 0, none⟩ 1 1 [.int .u64 x] rfl rfl (cells_new _ _ _ (by simp [World.setCell])) (by simp [Value.oneCell']) (by simp only [maxLen]; omega) (by omega) (by simp [World.setCell]; omega) ?_
                 intro v7 w7 hown7 hgrow7 hnil7 hat7
                 rw [hmv.out] at hown7
                 have hb7 := HT7.out.boxV hgrow7
                 have hT8 := HT7.out.addV (show w7.ownsRow G 22 1 v7 (V ++ [x]).length _ by rw [hlv2.out]; exact hown7) hgrow7
                 have T8 := hid hT8
                 obtain ⟨a7, c7, rfl, z6, z7, z8, z9⟩ := of_own hown7
                 obtain ⟨s0, s1, s2, s3, s4⟩ := hb7.at5
                 have f4 := hb7.frozen 4
                 clear z9 z8 hown7 hb7 hT8 hnil7 hat7)
              | fail)
            go_roundw
            case rel => exact ⟨j + 1, vb, _, _, by go_num, by omega, by rw [Ht.out, e1.out, e2.out]; exact T8⟩
            case measure => simp [intOf]; omega
        · obtain rfl : n = j := by omega
          obtain ⟨C, hC⟩ : ∃ C, thC xs n (q + n) = C := ⟨_, rfl⟩
          have hnext := hid (show (tab (i + 1) fun r => (nz xs (r * n) : Int)) ++ [(C.length : Int)] = tab (i + 1 + 1) fun r => (nz xs (r * n) : Int) by
            rw [tab_succ (i + 1), ← hC, thC_len, Nat.succ_mul, Hq.out]; rfl)
          have hq1 := hid (show (i + 1) * n = q + n by rw [Nat.succ_mul, Hq.out])
          obtain ⟨Bs, hBs⟩ : ∃ B, (tab (i + 1) fun r => (nz xs (r * n) : Int)) = B := ⟨_, rfl⟩
          have hBl : Bs.length = i + 1 := by rw [← hBs]; exact tab_len _ _
          have hbd := (hnzi.out n (Nat.le_refl _)).1
          rw [hC] at HT hbd
          rw [hBs] at HT hnext
          have hob := HT.out.ob
          rw [hBl] at hob
          have Hob := hid hob
          have hGi : G ≤ wi.heap.size := by rw [← hG]; exact HT.out.ext.size
          obtain ⟨ac, cc, rfl, u2, u3, u4, u5⟩ := of_own HT.out.oc
          obtain ⟨lc, hlc⟩ : ∃ l, C.length = l := ⟨_, rfl⟩
          rw [hlc] at HT hnext u2 hbd
          have hmb := hid (show Bs.map (Value.int .i64) ++ [Value.int .i64 (lc : Int)] = (Bs ++ [(lc : Int)]).map (Value.int .i64) by rw [List.map_append]; rfl)
          have hlb2 := hid (show (Bs ++ [(lc : Int)]).length = i + 1 + 1 by rw [List.length_append, hBl]; rfl)
          obtain ⟨p0, p1, p2, p3, p4⟩ := HT.out.box.at5
          have HT1 := hid (HT.out.ext' ((Ext.refl wi).alloc (.cells #[.int .i64 (lc : Int)] 3)))
          have HC' := hid hC
          clear hC hBs hBl hob u4 u5 hlc
          go_wp2_with (first
              | (at_builtin
                 refine wpList_append_own_at _ rfl _ _ 26 rfl G 3 ii (.int .i64 0) 1 8 Try.underlying26 hii hi0 hi1 hi2 rfl (by decide) vb (i + 1) _ rfl (Hob.out.alloc _) ⟨wi.heap.size, 0, none⟩ 1 1 [.int .i64 (lc : Int)] rfl rfl (cells_new _ _ _ (by simp)) (by simp [Value.oneCell']) (by simp only [maxLen]; omega) (by omega) (by simp; omega) ?_
                 intro v6 w6 hown6 hgrow6 hnil6 hat6
                 rw [hmb.out] at hown6
                 have hb6 := HT1.out.boxB hgrow6
                 have hT6 := HT1.out.addB (show w6.ownsRow G 3 1 v6 (Bs ++ [(lc : Int)]).length _ by rw [hlb2.out]; exact hown6) hgrow6 hat6
                 have T6 := hid hT6
                 obtain ⟨a6, c6, rfl, z2, z3, z4, z5⟩ := of_own hown6
                 obtain ⟨q0, q1, q2, q3, q4⟩ := hb6.at5
                 have f2 := hb6.frozen 2
                 clear z5 z4 hown6 hb6 hT6 hnil6 hat6)
              | fail)
          go_roundw
          case rel => exact ⟨i + 1, _, _, vv, by go_num, by omega, by rw [← hnext.out, hq1.out, HC'.out]; exact T6⟩
          case measure => simp [intOf]; omega
    · obtain rfl : m = i := by omega
      obtain ⟨ab, cb, rfl, s2, s3, s4, s5⟩ := of_own HT.out.ob
      obtain ⟨ac, cc, rfl, u2, u3, u4, u5⟩ := of_own HT.out.oc
      obtain ⟨av, cv, rfl, v2, v3, v4, v5⟩ := of_own HT.out.ov
      have hRr := HR.out.ext HT.out.ext
      have Hob := hid HT.out.ob; have Hoc := hid HT.out.oc; have Hov := hid HT.out.ov
      have Hbx := hid HT.out.box
      have HRr := hid hRr
      have HEr := hid (HE.out.trans HT.out.ext)
      obtain ⟨Lb, hLb⟩ : ∃ l, (tab (m + 1) fun r => (nz xs (r * n) : Int)).length = l := ⟨_, rfl⟩
      obtain ⟨Lc, hLc⟩ : ∃ l, (thC xs n (m * n)).length = l := ⟨_, rfl⟩
      obtain ⟨Lv, hLv⟩ : ∃ l, (thV xs (m * n)).length = l := ⟨_, rfl⟩
      rw [hLb] at s2 Hob Hbx
      rw [hLc] at u2 Hoc Hbx
      rw [hLv] at v2 Hov Hbx
      obtain ⟨p0, p1, p2, p3, p4⟩ := Hbx.out.at5
      obtain ⟨r0, r1, r2, r3, r4⟩ := hRr.at5
      have f0 := hRr.frozen 0
      have f1 := hRr.frozen 1
      have f2 := hRr.frozen 2
      have f3 := hRr.frozen 3
      have f4 := hRr.frozen 4
      clear b0 b1 b2 s4 s5 u4 u5 v4 v5 hRr hLb hLc hLv HT
      go_wp2_with fail
      have FF := fin5 HRr.out HEr.out hgw (.int .i64 (m : Int)) (.int .i64 (n : Int)) (.slice ab Lb cb) (.slice ac Lc cc) (.slice av Lv cv)
      refine bodyPost_ret (results_cell_row_tmp rfl _ _ gR 28 _ (0, 0) _ rfl FF.1 Try.underlying28 rfl (by kernel_rfl)) rfl ?_
      exact ⟨_, _, _, rfl, own_set5 Hob.out HRr.out (by decide) _ _ _ _ _, own_set5 Hoc.out HRr.out (by decide) _ _ _ _ _, own_set5 Hov.out HRr.out (by decide) _ _ _ _ _, FF.2⟩
end Go.Proofs.Ytlociefncogjeaa
