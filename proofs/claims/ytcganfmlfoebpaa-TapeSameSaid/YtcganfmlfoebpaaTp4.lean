/- Left: how many words count; the document's own Left, Draw and Many. -/
import Derived.Test.YtcganfmlfoebpaaTp3
import Derived.Test.YtcganfmlfoebpaaPiece
namespace Go.Proofs.Ytcganfmlfoebpaa
open Go.RowKit Go.Maps

theorem filter_take (g : Int → Bool) (ws : List Int) (j : Nat) (h : j < ws.length) : ((ws.take (j + 1)).filter g).length = ((ws.take j).filter g).length + (if g (ws.getD j 0) then 1 else 0) := by
  rw [List.take_succ_eq_append_getElem h, List.filter_append, List.length_append]
  have e : ws.getD j 0 = ws[j] := by simp [List.getD, h]
  rw [e]
  cases hg : g ws[j] <;> simp [hg]
theorem filter_take_le (g : Int → Bool) (ws : List Int) (j : Nat) : ((ws.take j).filter g).length ≤ j := by
  have := List.length_filter_le g (ws.take j)
  rw [List.length_take] at this; omega
/-- how many words count -/
def leftN (p k : Int) (xs : List Int) : Nat := if tapeB k xs then ((xs.drop k.toNat).filter (cntB p)).length else 0
theorem drop_get (xs : List Int) (K j : Nat) : (xs.drop K).getD j 0 = xs.getD (K + j) 0 := by simp [List.getD]
set_option maxHeartbeats 1000000 in
theorem tpLeft (p k : Int) (v : Value) (xs : List Int) (w : World) (h0 : 0 ≤ p) (h1 : p ≤ 18446744073709551615) (hv : Ints .u64 w v xs) (hx : U64s xs) :
    Calls Try.prog 17 #[.int .u64 p, tapeV v k] w (Ret (.int .i64 (leftN p k xs : Nat)) w) := by
  have C := hid fun (W : World) (hW : Ext w W) => tpRight v k xs W (hv.ext hW)
  have HX := hid hx
  unfold leftN
  cases hT : tapeB k xs with
  | false =>
    rw [hT] at C
    obtain ⟨a, cap, rfl, -, -, -⟩ := hv
    unfold tapeV at C
    unfold tapeV
    clear hx hT
    go_enter Try.func17, Try.ntmps17
    go_wp2_with (go_at_call 12; refine (C.out _ (by repeat (first | exact Ext.refl _ | assumption | refine Ext.drew ?_ | refine Ext.drewN ?_ _ | refine Ext.alloc ?_ _ | refine Ext.trans ?_ (by assumption)))).mono ?_; rintro _ w1 ⟨rfl, x1⟩)
    go_ret
    exact ⟨rfl, Ext.trans (by repeat (first | exact Ext.refl _ | assumption | refine Ext.drew ?_ | refine Ext.drewN ?_ _ | refine Ext.alloc ?_ _ | refine Ext.trans ?_ (by assumption))) x1⟩
  | true =>
    rw [hT] at C
    obtain ⟨hl, K, rfl, hK⟩ := tapeB_mk hT
    obtain ⟨N, hN⟩ : ∃ N, xs.length - K = N := ⟨_, rfl⟩
    have hNi : (xs.length : Int) - (K : Int) = (N : Int) := by omega
    obtain ⟨ws, ews⟩ : ∃ ws, xs.drop K = ws := ⟨_, rfl⟩
    have hwl : ws.length = N := by rw [← ews, List.length_drop, hN]
    have hget := hid (fun j => by rw [← ews]; exact drop_get xs K j : ∀ j, ws.getD j 0 = xs.getD (K + j) 0)
    rw [if_pos rfl, Int.toNat_natCast, ews]
    obtain ⟨a, cap, rfl, k1, k2, k3⟩ := hv
    have K3 := hid k3
    have hA := hid (Blk.new w 25 #[.slice a xs.length cap, .int .i64 (K : Int)])
    have HW := hid hwl; have HN := hid hN
    unfold tapeV at C
    unfold tapeV
    clear hx hT k3 hwl hN
    by_cases hN1 : 0 < N
    · obtain ⟨b, off, rfl, hb, hcell⟩ := K3.out (by have := HN.out; omega)
      have HC := hid hcell
      have hcK : cap ≠ K := by have := HN.out; omega
      clear hcell K3
      go_enter Try.func17, Try.ntmps17
      go_wp2_with (go_at_call 12; refine (C.out _ (by repeat (first | exact Ext.refl _ | assumption | refine Ext.drew ?_ | refine Ext.drewN ?_ _ | refine Ext.alloc ?_ _ | refine Ext.trans ?_ (by assumption)))).mono ?_; rintro _ w1 ⟨rfl, x1⟩
                   obtain ⟨b0, b1⟩ := (hA.out.ext x1).at2)
      have x2 := Ext.trans ((Ext.refl w).alloc (.cells #[.slice (some ⟨b, off, none⟩) xs.length cap, .int .i64 (K : Int)] 25)) x1
      clear b0 b1 x1 hA
      go_loopw [5, 7, 17] (fun m _ iv wr => ∃ (j c : Nat), iv = .int .i64 j ∧ j ≤ N ∧ m = .int .i64 c ∧ c ≤ j ∧ Hid (c = ((ws.take j).filter (cntB p)).length) ∧ Ext w wr) (fun _ _ iv _ => N - (intOf iv).toNat)
      case atStart => exact ⟨0, 0, rfl, Nat.zero_le _, rfl, Nat.le_refl _, hid (by simp), x2⟩
      case round =>
        obtain ⟨j, c, rfl, hj, rfl, hcj, hcc, hw⟩ := hrel
        by_cases hlt : j < N
        · have c1 : wr.cell? ⟨b, off + K + j, none⟩ = some (.int .u64 (xs.getD (K + j) 0)) := by rw [Nat.add_assoc]; exact (hw.cells _ _ hb).trans (HC.out (K + j) (by have := HN.out; omega))
          have hxg := U64s.get HX.out (show K + j < xs.length by have := HN.out; omega)
          rw [← hget.out j] at c1 hxg
          have hft := hid (filter_take (cntB p) ws j (by rw [HW.out]; exact hlt))
          obtain ⟨x, ex⟩ : ∃ x, ws.getD j 0 = x := ⟨_, rfl⟩
          rw [ex] at c1 hxg hft
          have CC := hid fun W => tpCounts p x W h0 h1
          obtain ⟨B, eB⟩ : ∃ B, cntB p x = B := ⟨_, rfl⟩
          rw [eB] at CC hft
          clear ex eB
          cases B with
          | true =>
            go_wp2_with (go_at_call 13; refine (CC.out _).mono ?_; rintro _ _ ⟨rfl, rfl⟩)
            go_roundw
            case rel => exact ⟨j + 1, c + 1, by go_num, by omega, by go_num, by omega, hid (by rw [hft.out, ← hcc.out]; rfl), hw⟩
            case measure => simp [intOf]; omega
          | false =>
            go_wp2_with (go_at_call 13; refine (CC.out _).mono ?_; rintro _ _ ⟨rfl, rfl⟩)
            go_roundw
            case rel => exact ⟨j + 1, c, by go_num, by omega, rfl, by omega, hid (by rw [hft.out, ← hcc.out]; rfl), hw⟩
            case measure => simp [intOf]; omega
        · obtain rfl : j = N := by omega
          have hcc2 : c = (ws.filter (cntB p)).length := by rw [hcc.out, ← HW.out, List.take_length]
          have HCC := hid hcc2
          clear hcc2
          go_wp2_with fail
          go_ret
          exact ⟨ret_int (by rw [HCC.out]), hw⟩
    · obtain rfl : N = 0 := by omega
      have hNN := HN.out
      obtain rfl : ws = [] := List.eq_nil_of_length_eq_zero HW.out
      have hcs : cap = K ∨ cap ≠ K := by omega
      rcases hcs with rfl | hc
      all_goals
        go_enter Try.func17, Try.ntmps17
        go_wp2_with (go_at_call 12; refine (C.out _ (by repeat (first | exact Ext.refl _ | assumption | refine Ext.drew ?_ | refine Ext.drewN ?_ _ | refine Ext.alloc ?_ _ | refine Ext.trans ?_ (by assumption)))).mono ?_; rintro _ w1 ⟨rfl, x1⟩
                     obtain ⟨b0, b1⟩ := (hA.out.ext x1).at2)
        have x2 : Ext w w1 := Ext.trans (by repeat (first | exact Ext.refl _ | assumption | refine Ext.drew ?_ | refine Ext.drewN ?_ _ | refine Ext.alloc ?_ _ | refine Ext.trans ?_ (by assumption))) x1
        go_loopw [5, 7, 17] (fun m _ iv wr => m = .int .i64 0 ∧ iv = .int .i64 0 ∧ Ext w wr) (fun _ _ _ _ => 0)
        case atStart => exact ⟨rfl, rfl, x2⟩
        case round =>
          obtain ⟨rfl, rfl, hw⟩ := hrel
          go_wp2_with fail
          go_ret
          exact ⟨rfl, hw⟩
set_option maxHeartbeats 1000000 in
theorem r10Left (p : Int) (K : Nat) (v : Value) (xs : List Int) (w : World) (h0 : 0 ≤ p) (h1 : p ≤ 18446744073709551615) (hv : Ints .u64 w v xs) (hx : U64s xs) (hK : K ≤ xs.length) :
    Calls Try.prog 19 #[.int .u64 p, tapeV v K] w (Ret (.int .i64 (((xs.drop K).filter (cntB p)).length : Nat)) w) := by
  have HX := hid hx
  obtain ⟨ws, ews⟩ : ∃ ws, xs.drop K = ws := ⟨_, rfl⟩
  obtain ⟨N, hN⟩ : ∃ N, xs.length = K + N := ⟨xs.length - K, by omega⟩
  have hwl : ws.length = N := by rw [← ews, List.length_drop, hN]; omega
  have hget := hid (fun j => by rw [← ews]; exact drop_get xs K j : ∀ j, ws.getD j 0 = xs.getD (K + j) 0)
  rw [ews]
  obtain ⟨a, cap, rfl, k1, k2, k3⟩ := hv
  have K3 := hid k3
  have hA := hid (Blk.new w 25 #[.slice a xs.length cap, .int .i64 (K : Int)])
  have HW := hid hwl; have HN := hid hN
  unfold tapeV
  clear hx k3 hwl ews
  rw [hN] at k1 hA K3 ⊢
  clear hN
  go_enter Try.func19, Try.ntmps19
  go_wp2_with fail
  go_loopw [5, 6] (fun m iv wr => ∃ (j c i : Nat), iv = .int .i64 i ∧ Hid (i = K + j) ∧ K ≤ i ∧ i ≤ K + N ∧ m = .int .i64 c ∧ c ≤ i ∧ Hid (c = ((ws.take j).filter (cntB p)).length) ∧ Hid (c ≤ j) ∧ Ext (w.alloc (.cells #[.slice a (K + N) cap, .int .i64 (K : Int)] 25)) wr) (fun _ iv _ => K + N - (intOf iv).toNat)
  case atStart => exact ⟨0, 0, K, rfl, hid rfl, Nat.le_refl _, by omega, rfl, by omega, hid (by simp), hid (Nat.le_refl _), Ext.refl _⟩
  case round =>
    obtain ⟨j, c, i, rfl, hij, hi0, hi1, rfl, hci, hcc, hcj, hw⟩ := hrel
    obtain ⟨b0, b1⟩ := (hA.out.ext hw).at2
    by_cases hlt : i < K + N
    · obtain ⟨b, off, rfl, hb, hcell⟩ := K3.out (by omega)
      have c1 : wr.cell? ⟨b, off + i, none⟩ = some (.int .u64 (xs.getD i 0)) := (hw.cells _ _ (by simp; omega)).trans ((((Ext.refl w).alloc _).cells _ _ hb).trans (hcell i hlt))
      have hxg := U64s.get HX.out (show i < xs.length by have := HN.out; omega)
      have hgi := hget.out j
      rw [← hij.out] at hgi
      rw [← hgi] at c1 hxg
      have hft := hid (filter_take (cntB p) ws j (by rw [HW.out]; have := hij.out; omega))
      obtain ⟨x, ex⟩ : ∃ x, ws.getD j 0 = x := ⟨_, rfl⟩
      rw [ex] at c1 hxg hft
      have CC := hid fun W => r10Counts p x W h0 h1 hxg.1 hxg.2
      obtain ⟨B, eB⟩ : ∃ B, cntB p x = B := ⟨_, rfl⟩
      rw [eB] at CC hft
      clear ex eB hcell hgi
      cases B with
      | true =>
        go_wp2_with (go_at_call 14; refine (CC.out _).mono ?_; rintro _ _ ⟨rfl, rfl⟩)
        go_roundw
        case rel => exact ⟨j + 1, c + 1, i + 1, by go_num, hid (by have := hij.out; omega), by omega, by omega, by go_num, by omega, hid (by rw [hft.out, ← hcc.out]; rfl), hid (by have := hcj.out; omega), hw⟩
        case measure => simp [intOf]; omega
      | false =>
        go_wp2_with (go_at_call 14; refine (CC.out _).mono ?_; rintro _ _ ⟨rfl, rfl⟩)
        go_roundw
        case rel => exact ⟨j + 1, c, i + 1, by go_num, hid (by have := hij.out; omega), by omega, by omega, rfl, by omega, hid (by rw [hft.out, ← hcc.out]; rfl), hid (by have := hcj.out; omega), hw⟩
        case measure => simp [intOf]; omega
    · obtain rfl : i = K + N := by omega
      have hjN : j = N := by have := hij.out; omega
      have HCC := hid (show c = (ws.filter (cntB p)).length by rw [hcc.out, hjN, ← HW.out, List.take_length])
      clear hjN
      go_wp2_with fail
      go_ret
      exact ⟨ret_int (by rw [HCC.out]), Ext.trans (by repeat (first | exact Ext.refl _ | assumption | refine Ext.drew ?_ | refine Ext.drewN ?_ _ | refine Ext.alloc ?_ _ | refine Ext.trans ?_ (by assumption))) hw⟩
end Go.Proofs.Ytcganfmlfoebpaa
