/- Package matrix, thin matrices: what of the library they call; a row's columns and numbers; whether columns rise, whether rows begin right. -/
import Derived.Test.YtlociefncogjeaaMat7
import Derived.Test.YtlociefncogjeaaMx2
namespace Go.Proofs.Ytlociefncogjeaa
open Go.RowKit Go.Maps

theorem isNaN_any (x : Int) (w : World) : Calls Try.prog 63 #[.int .i64 x] w fun e w' => e = .returned (.bool false) ∧ w = w' := by
  have h : (x != x) = false := by simp
  go_enter Try.func63, Try.ntmps63
  go_wp2
  go_ret
  exact ⟨rfl, rfl⟩
theorem lessInt_any (x y : Int) (w : World) : Calls Try.prog 61 #[.int .i64 x, .int .i64 y] w fun e w' => e = .returned (.bool (decide (x < y))) ∧ w = w' := by
  go_enter Try.func61, Try.ntmps61
  go_wp2_with (go_at_call 63; refine (isNaN_any _ _).mono ?_; rintro _ _ ⟨rfl, rfl⟩)
  go_ret
  exact ⟨rfl, rfl⟩
/-- answers whether P, and only draws -/
def RetIffD (P : Prop) (w : World) (e : Ending) (w' : World) : Prop := ∃ b : Bool, e = .returned (.bool b) ∧ (b = true ↔ P) ∧ Drw w w'
/-- none less than the one ahead -/
def Sorted (xs : List Int) : Prop := ∀ j, j + 1 < xs.length → xs.getD j 0 ≤ xs.getD (j + 1) 0
set_option maxHeartbeats 1000000 in
theorem sorted_any (v : Value) (xs : List Int) (w : World) (hv : Ints .i64 w v xs) :
    Calls Try.prog 55 #[v] w (RetIffD (Sorted xs) w) := by
  obtain ⟨a, cap, rfl, k1, k2, k3⟩ := hv
  have K := hid k3
  clear k3
  go_enter Try.func55, Try.ntmps55
  go_wp2_with fail
  go_loopw [3] (fun i wr => ∃ k : Int, i = .int .i64 k ∧ -1 ≤ k ∧ k < xs.length ∧ Hid (∀ j : Nat, k ≤ j → j + 1 < xs.length → xs.getD j 0 ≤ xs.getD (j + 1) 0) ∧ Drw w wr) (fun i _ => (intOf i).toNat)
  case atStart => exact ⟨_, rfl, by omega, by omega, hid (fun j h1 h2 => by omega), Drw.refl _⟩
  case round =>
    obtain ⟨k, rfl, hk0, hk1, hall, hw⟩ := hrel
    by_cases hlt : 0 < k
    · obtain ⟨t, rfl⟩ : ∃ t : Nat, k = ((t + 1 : Nat) : Int) := ⟨(k - 1).toNat, by omega⟩
      obtain ⟨b, off, rfl, hb, hc⟩ := K.out (by omega)
      have g1 := (hw.ext.cells _ _ hb).trans (hc t (by omega))
      have g2 := (hw.ext.cells _ _ hb).trans (hc (t + 1) (by omega))
      obtain ⟨x, ex⟩ : ∃ x, xs.getD t 0 = x := ⟨_, rfl⟩
      obtain ⟨y, ey⟩ : ∃ y, xs.getD (t + 1) 0 = y := ⟨_, rfl⟩
      rw [ex] at g1; rw [ey] at g2
      have Ex := hid ex; have Ey := hid ey
      clear ex ey hc
      obtain ⟨s, hs⟩ : ∃ s, t + 1 = s := ⟨_, rfl⟩
      rw [hs] at g2 Ey hk1 ⊢
      have hs1 : (s : Int) - 1 = (t : Int) := by omega
      have hw1 : IntKind.i64.wrap ((s : Int) - 1) = (s : Int) - 1 := by rw [IntKind.wrap_i64]; omega
      have hi1 : (s : Int) < (xs.length : Int) := by omega
      have hi2 : (t : Int) < (xs.length : Int) := by omega
      have hi3 : (0 : Int) ≤ (s : Int) := by omega
      have hi4 : (0 : Int) ≤ (t : Int) := by omega
      have Hs := hid hs
      clear hs
      by_cases hyx : y < x
      · have Hyx := hid hyx
        go_wp2_with fail
        go_quiet ((go_at_call 61; first | exact quiet_l (lessInt_any _ _ _) | exact quiet_add_l (lessInt_any _ _ _)))
        go_wp2_with fail
        go_ret
        exact ⟨false, rfl, by simp; exact fun h => by have := h t (by rw [Hs.out]; omega); rw [Ex.out, Hs.out, Ey.out] at this; have := Hyx.out; omega, hw.drewN _⟩
      · have Hyx := hid hyx
        go_wp2_with fail
        go_quiet ((go_at_call 61; first | exact quiet_l (lessInt_any _ _ _) | exact quiet_add_l (lessInt_any _ _ _)))
        go_wp2_with fail
        go_roundw
        case rel => exact ⟨(t : Int), by go_num, by omega, by omega, hid (fun j h1 h2 => by
          by_cases e : j = t
          · rw [e, Hs.out, Ex.out, Ey.out]; have := Hyx.out; omega
          · exact hall.out j (by omega) h2), hw.drewN _⟩
        case measure => simp [intOf]; omega
    · go_wp2_with fail
      go_ret
      exact ⟨true, rfl, by simp; exact fun j hj => hall.out j (by omega) hj, hw⟩
/-- does a number stand in a list? -/
theorem index_any (x : Int) (v : Value) (xs : List Int) (w : World) (hv : Ints .u64 w v xs) :
    Calls Try.prog 56 #[v, .int .u64 x] w fun e w' => ∃ k : Int, e = .returned (.int .i64 k) ∧ (0 ≤ k ↔ x ∈ xs) ∧ w = w' := by
  obtain ⟨a, cap, rfl, k1, k2, k3⟩ := hv
  have K := hid k3
  clear k3
  go_enter Try.func56, Try.ntmps56
  go_wp2
  go_loop [8] (fun i => ∃ k : Nat, i = .int .i64 k ∧ k ≤ xs.length ∧ Hid (∀ j, j < k → xs.getD j 0 ≠ x)) (fun i => xs.length - (intOf i).toNat)
  case atStart => exact ⟨0, rfl, Nat.zero_le _, hid (by omega)⟩
  case round =>
    obtain ⟨k, rfl, hk, hall⟩ := hrel
    by_cases hlt : k < xs.length
    · obtain ⟨b, off, rfl, hb, hc⟩ := K.out (by omega)
      have g1 := hc k hlt
      have hm : xs.getD k 0 ∈ xs := getD_mem 0 hlt
      obtain ⟨y, ey⟩ : ∃ y, xs.getD k 0 = y := ⟨_, rfl⟩
      rw [ey] at g1 hm
      have Ey := hid ey; have Hm := hid hm
      clear ey hc hm
      by_cases hxy : x = y
      · have b3 : (x == y) = true := by simp [hxy]
        have Hxy := hid hxy
        clear hxy
        go_wp2
        go_ret
        exact ⟨_, rfl, ⟨fun _ => Hxy.out ▸ Hm.out, fun _ => by omega⟩, rfl⟩
      · have b3 : (x == y) = false := by simp [hxy]
        have Hxy := hid hxy
        clear hxy
        go_wp2
        go_round
        case rel => exact ⟨k + 1, by go_num, by omega, hid fun j hj => by
          by_cases e : j = k
          · rw [e, Ey.out]; exact fun h => Hxy.out h.symm
          · exact hall.out j (by omega)⟩
        case measure => simp [intOf]; omega
    · have hn : Hid (x ∉ xs) := hid fun hx => by
        obtain ⟨j, hj, e⟩ := List.mem_iff_getElem.1 hx
        exact hall.out j (by omega) (by rw [← e]; simp [List.getD, List.getElem?_eq_getElem hj])
      go_wp2
      go_ret
      exact ⟨_, rfl, ⟨fun h => by omega, fun h => absurd h hn.out⟩, rfl⟩
theorem contains_any (x : Int) (v : Value) (xs : List Int) (w : World) (hv : Ints .u64 w v xs) :
    Calls Try.prog 41 #[v, .int .u64 x] w fun e w' => e = .returned (.bool (decide (x ∈ xs))) ∧ w = w' := by
  have C := hid (index_any x v xs w hv)
  obtain ⟨a, cap, rfl, k1, k2, k3⟩ := hv
  clear k3
  go_enter Try.func41, Try.ntmps41
  go_wp2_with (go_at_call 56; refine C.out.mono ?_; rintro _ _ ⟨k, rfl, hk, rfl⟩; have Hk := hid hk; clear hk)
  go_ret
  exact ⟨ret_bool (by rw [Bool.eq_iff_iff, decide_eq_true_eq, decide_eq_true_eq]; exact Hk.out), rfl⟩

/-! ### A row's piece -/
def seg (xs : List Int) (lo hi : Nat) : List Int := (xs.drop lo).take (hi - lo)
theorem seg_len {xs : List Int} {lo hi : Nat} (h : hi ≤ xs.length) : (seg xs lo hi).length = hi - lo := by simp [seg]; omega
theorem seg_get (xs : List Int) (lo hi k : Nat) (h : k < hi - lo) : (seg xs lo hi).getD k 0 = xs.getD (lo + k) 0 := sub_get xs lo _ k h
def segA (a : Option Addr) (lo cap : Nat) : Option Addr := if cap = lo then a else a.map (·.add lo)
theorem Ints.seg {k : IntKind} {w : World} {a : Option Addr} {m cap : Nat} {xs : List Int} (h : Ints k w (.slice a m cap) xs) (lo hi : Nat) (h1 : lo ≤ hi) (h2 : hi ≤ xs.length) :
    Ints k w (.slice (segA a lo cap) (hi - lo) (cap - lo)) (seg xs lo hi) := by
  obtain ⟨a', cap', e, l1, l2, l3⟩ := h
  injection e with e1 e2 e3
  subst e1; subst e3
  have hl := seg_len (lo := lo) h2
  refine ⟨_, cap - lo, by rw [hl], by omega, by omega, fun hp => ?_⟩
  rw [hl] at hp
  obtain ⟨b, off, rfl, hb, hc⟩ := l3 (by omega)
  refine ⟨b, off + lo, ?_, hb, fun j hj => ?_⟩
  · unfold segA
    rw [if_neg (by omega)]
    simp [Go.WideShapes.add_plain]
  · rw [hl] at hj
    rw [Nat.add_assoc, hc (lo + j) (by omega), seg_get xs lo hi j hj]
theorem seg_run {P : Program} {t : TypeId} (hu : P.underlying t = some (.slice (P.elem t))) (hs : ∀ w, ((sizeOf (P.elem t)).run P w) = .ok 1 w) (a : Option Addr) (len cap lo hi : Nat) (h1 : lo ≤ hi) (h2 : hi ≤ cap) (w : World) :
    (Instr.slice t (.slice a len cap) (some (.int .i64 (lo : Int))) (some (.int .i64 (hi : Int))) none).run P w = .ok (.slice (segA a lo cap) (hi - lo) (cap - lo)) w ∧
    (Instr.sliceAt t (.slice a len cap) (some (.int .i64 (lo : Int))) (some (.int .i64 (hi : Int))) none).run P w = .ok (.slice (segA a lo cap) (hi - lo) (cap - lo)) w := by
  have e : (Instr.slice t (.slice a len cap) (some (.int .i64 (lo : Int))) (some (.int .i64 (hi : Int))) none).run P w = .ok (.slice (segA a lo cap) (hi - lo) (cap - lo)) w := by
    rw [run_slice_lh w t _ len cap hu .i64 .i64 lo hi (by omega) (by omega) (by omega), hs]
    simp only [Result.andThen, sliced, Int.toNat_natCast, segA, Nat.mul_one]
  exact ⟨e, by rw [run_sliceAt_slice w t _ _ _ _ hu]; exact e⟩
/-- what line answers: pieces of what was there -/
def RetS (cs vs : List Int) (lo hi : Nat) (w0 w : World) (e : Ending) (w' : World) : Prop := ∃ vc vv, e = .returned (.tuple #[vc, vv]) ∧ Ints .i64 w0 vc (seg cs lo hi) ∧ Ints .u64 w0 vv (seg vs lo hi) ∧ Ext w w'
set_option maxRecDepth 100000 in
set_option maxHeartbeats 1000000 in
theorem mxLine (r c : Int) (vb vc vv : Value) (bs cs vs : List Int) (i lo hi : Nat) (w0 w : World) (hx : Ext w0 w) (hb : Ints .i64 w0 vb bs) (hc : Ints .i64 w0 vc cs) (hv : Ints .u64 w0 vv vs) (hi' : i + 1 < bs.length) (e1 : bs.getD i 0 = lo) (e2 : bs.getD (i + 1) 0 = hi) (h1 : lo ≤ hi) (h2 : hi ≤ cs.length) (h3 : hi ≤ vs.length) (h64 : i ≤ 64) :
    Calls Try.prog 42 #[spV r c vb vc vv, .int .i64 i] w (RetS cs vs lo hi w0 w) := by
  have Hc := hid hc; have Hv := hid hv
  obtain ⟨a1, c1, rfl, k1, k2, k3⟩ := hb
  obtain ⟨a2, c2, rfl, l1, l2, l3⟩ := hc
  obtain ⟨a3, c3, rfl, m1, m2, m3⟩ := hv
  obtain ⟨b, off, rfl, hb, hcell⟩ := k3 (by omega)
  have g1 := hcell i (by omega)
  have g2 := hcell (i + 1) hi'
  rw [e1] at g1
  rw [e2] at g2
  obtain ⟨s, hs⟩ : ∃ s, i + 1 = s := ⟨_, rfl⟩
  rw [hs] at g2 hi'
  have hs1 : (i : Int) + 1 = (s : Int) := by omega
  have hw1 : IntKind.i64.wrap ((i : Int) + 1) = (i : Int) + 1 := by rw [IntKind.wrap_i64]; omega
  have hi1 : (s : Int) < (bs.length : Int) := by omega
  have hi2 : (i : Int) < (bs.length : Int) := by omega
  have hi3 : (0 : Int) ≤ (s : Int) := by omega
  have hi4 : (0 : Int) ≤ (i : Int) := by omega
  have t1 := fun w => (seg_run (P := Try.prog) (t := 26) (by kernel_rfl) (fun _ => by kernel_rfl) a2 cs.length c2 lo hi h1 (by omega) w).1
  have t1' := fun w => (seg_run (P := Try.prog) (t := 26) (by kernel_rfl) (fun _ => by kernel_rfl) a2 cs.length c2 lo hi h1 (by omega) w).2
  have t2 := fun w => (seg_run (P := Try.prog) (t := 23) (by kernel_rfl) (fun _ => by kernel_rfl) a3 vs.length c3 lo hi h1 (by omega) w).1
  have t2' := fun w => (seg_run (P := Try.prog) (t := 23) (by kernel_rfl) (fun _ => by kernel_rfl) a3 vs.length c3 lo hi h1 (by omega) w).2
  have Hcs := hid (Hc.out.seg lo hi h1 h2)
  have Hvs := hid (Hv.out.seg lo hi h1 h3)
  obtain ⟨A2, hA2⟩ : ∃ A, segA a2 lo c2 = A := ⟨_, rfl⟩
  obtain ⟨A3, hA3⟩ : ∃ A, segA a3 lo c3 = A := ⟨_, rfl⟩
  obtain ⟨n, hn⟩ : ∃ n, hi - lo = n := ⟨_, rfl⟩
  obtain ⟨C2, hC2⟩ : ∃ C, c2 - lo = C := ⟨_, rfl⟩
  obtain ⟨C3, hC3⟩ : ∃ C, c3 - lo = C := ⟨_, rfl⟩
  rw [hA2, hn, hC2] at t1 t1' Hcs
  rw [hA3, hn, hC3] at t2 t2' Hvs
  have f1 := ((hx.alloc (.cells #[.int .i64 r, .int .i64 c, .slice (some ⟨b, off, none⟩) bs.length c1, .slice a2 cs.length c2, .slice a3 vs.length c3] 28)).cells _ _ hb).trans g1
  have f2 := ((hx.alloc (.cells #[.int .i64 r, .int .i64 c, .slice (some ⟨b, off, none⟩) bs.length c1, .slice a2 cs.length c2, .slice a3 vs.length c3] 28)).cells _ _ hb).trans g2
  clear k3 l3 m3 hcell hs g1 g2 hA2 hA3 hn hC2 hC3 hx
  unfold spV
  go_enter Try.func42, Try.ntmps42
  go_wp2_with fail
  go_quiet (fail)
  go_wp2_with fail
  go_quiet (fail)
  go_wp2_with fail
  go_ret2
  exact ⟨_, _, rfl, Hcs.out, Hvs.out, (by repeat (first | exact Ext.refl _ | assumption | refine Ext.drew ?_ | refine Ext.drewN ?_ _ | refine Ext.alloc ?_ _ | refine Ext.trans ?_ (by assumption)))⟩
end Go.Proofs.Ytlociefncogjeaa
