/- The document's own answers of layer 6: Back, Do, Sign, Same. -/
import Derived.Test.YtalkbmnbggclpaaRef06
import Derived.Test.YtalkbmnbggclpaaMat2
namespace Go.Proofs.Ytalkbmnbggclpaa
open Go.RowKit Go.Maps

set_option maxRecDepth 100000 in
set_option maxHeartbeats 1000000 in
theorem r6Back (v : Value) (n : Nat) (p : List Int) (w : World) (hv : Ints .i64 w v p) (hp : Ord n p) (hn : n ≤ 64) :
    Calls Try.prog 18 #[v] w (RetI (backL p) w) := by
  obtain ⟨i0, hi, hz0, hz1, hz2⟩ := info_parts info_i64p
  have CF := hid fun (k : Nat) (hk : k < n) (W : World) (hW : Ext w W) => (show Calls Try.prog 43 #[v, .int .i64 k] W (RetD (.int .i64 (atL p k)) W) from hp.findZ hk ▸ r6Find v p k W (hv.ext hW))
  have ht : backL p = tab n fun k => (atL p k : Int) := by unfold backL; rw [hp.len]
  rw [ht]
  clear ht
  have hl := hp.len
  obtain ⟨a, cap, rfl, k1, k2, k3⟩ := hv
  rw [hl] at CF k1 ⊢
  clear k3 hl hp
  obtain ⟨F, hF⟩ : ∃ F : Nat → Int, (fun k : Nat => (atL p k : Int)) = F := ⟨_, rfl⟩
  have HF := hid (fun (k : Nat) => (congrFun hF k : (atL p k : Int) = F k))
  rw [hF]
  clear hF
  go_enter Try.func18, Try.ntmps18
  go_wp2_with fail
  go_loopw [4, 3] (fun iv rv wr => ∃ k : Nat, iv = .int .i64 k ∧ k ≤ n ∧ Hid (wr.ownsRow w.heap.size 3 1 rv k ((tab k F).map (Value.int .i64))) ∧ Ext w wr) (fun iv _ _ => n - (intOf iv).toNat)
  case atStart => exact ⟨0, rfl, Nat.zero_le _, hid (World.ownsRow_nil _ _ _ _), Ext.refl _⟩
  case round =>
    obtain ⟨k, rfl, hk, hown, hxr⟩ := hrel
    by_cases hlt : k < n
    · have hC := CF.out k hlt wr hxr
      have hFk := HF.out k
      have happ := hid (show ((tab k F).map (Value.int .i64)) ++ [Value.int .i64 (F k)] = (tab (k + 1) F).map (Value.int .i64) by rw [tab_succ, List.map_append]; rfl)
      rw [hFk] at hC
      obtain ⟨y, ey2⟩ : ∃ y, F k = y := ⟨_, rfl⟩
      rw [ey2] at hC happ
      have HC := hid hC
      clear hC ey2 hFk
      go_wp2_with fail
      refine HC.out.mono ?_
      rintro _ w5 ⟨rfl, x5⟩
      have e5 := hxr.trans x5.ext
      have hsz := e5.size
      have hown5 := hid (ownsRow_ext hown.out x5.ext)
      go_wp2_with (first | (at_builtin; refine wpList_append_own _ rfl _ _ 22 rfl w.heap.size 3 i0 (.int .i64 0) 1 8 Try.underlying22 hi hz0 hz1 hz2 rfl (by decide) _ _ _ rfl (hown5.out.alloc _) ⟨w5.heap.size, 0, none⟩ 1 1 [.int .i64 y] rfl rfl (cells_new _ _ _ (by simp)) (by simp [Value.oneCell']) (by simp only [maxLen]; omega) (by omega) (by simp; omega) ?_; intro v' w6 hown6 hgrow6 hnil6) | fail)
      go_roundw
      case rel => exact ⟨k + 1, by go_num, by omega, hid (by rw [← happ.out]; exact hown6), (e5.alloc _).grown hgrow6 (fun t e => (hown.out.lt t e).1)⟩
      case measure => simp [intOf]; omega
    · obtain rfl : k = n := by omega
      obtain ⟨a5, c5, rfl, c52, hI⟩ := owns_ints hown.out
      have HI := hid hI
      clear hI c52 hown
      go_wp2_with fail
      go_ret
      exact ⟨_, rfl, HI.out, hxr⟩

set_option maxRecDepth 100000 in
set_option maxHeartbeats 1000000 in
theorem r6Do (v u : Value) (n : Nat) (p x : List Int) (w : World) (hv : Ints .i64 w v p) (hu : Ints .u64 w u x) (hp : Ord n p) (hx : x.length = n) (hn : n ≤ 64) :
    Calls Try.prog 23 #[v, u] w (RetL (doL p x) w) := by
  obtain ⟨i0, hi, hz0, hz1, hz2⟩ := info_parts info_u64p
  have Hp := hid hp
  have ht : doL p x = tab n fun k => x.getD (p.getD k 0).toNat 0 := tab_of (by rw [doL_len, hp.len]) fun k hk => doL_get hp.len hk
  rw [ht]
  clear ht
  obtain ⟨a, cap, rfl, k1, k2, k3⟩ := hv
  obtain ⟨a', cap', rfl, m1, m2, m3⟩ := hu
  have K3 := hid k3; have M3 := hid m3
  have e := hp.len
  rw [e] at k1 K3
  rw [hx] at m1 M3
  rw [hx, e]
  clear k3 m3 hp e hx
  obtain ⟨F, hF⟩ : ∃ F : Nat → Int, (fun k => x.getD (p.getD k 0).toNat 0) = F := ⟨_, rfl⟩
  have HF := hid (fun k => (congrFun hF k : x.getD (p.getD k 0).toNat 0 = F k))
  rw [hF]
  clear hF
  go_enter Try.func23, Try.ntmps23
  go_wp2_with fail
  go_loopw [6, 5] (fun iv rv wr => ∃ k : Nat, iv = .int .i64 k ∧ k ≤ n ∧ Hid (wr.ownsRow w.heap.size 55 1 rv k ((tab k F).map (Value.int .u64))) ∧ Ext w wr) (fun iv _ _ => n - (intOf iv).toNat)
  case atStart => exact ⟨0, rfl, Nat.zero_le _, hid (World.ownsRow_nil _ _ _ _), Ext.refl _⟩
  case round =>
    obtain ⟨k, rfl, hk, hown, hxr⟩ := hrel
    have hsz := hxr.size
    by_cases hlt : k < n
    · obtain ⟨b, off, rfl, hb, hc⟩ := K3.out (by omega)
      obtain ⟨b', off', rfl, hb', hc'⟩ := M3.out (by omega)
      have g1 := (hxr.cells _ _ hb).trans (hc k hlt)
      have hr := Hp.out.get hlt
      have hFk := HF.out k
      obtain ⟨y, ey⟩ : ∃ y, p.getD k 0 = y := ⟨_, rfl⟩
      rw [ey] at g1 hr hFk
      obtain ⟨t, rfl⟩ := Int.eq_ofNat_of_zero_le hr.1
      have htn : t < n := by omega
      have g2 := (hxr.cells _ _ hb').trans (hc' t htn)
      rw [Int.toNat_natCast] at hFk
      rw [hFk] at g2
      have happ := hid (show ((tab k F).map (Value.int .u64)) ++ [Value.int .u64 (F k)] = (tab (k + 1) F).map (Value.int .u64) by rw [tab_succ, List.map_append]; rfl)
      obtain ⟨y, ey2⟩ : ∃ y, F k = y := ⟨_, rfl⟩
      rw [ey2] at g2 happ
      clear hc hc' ey ey2 hFk hr
      go_wp2_with (first | (at_builtin; refine wpList_append_own _ rfl _ _ 23 rfl w.heap.size 55 i0 (.int .u64 0) 1 8 Try.underlying23 hi hz0 hz1 hz2 rfl (by decide) _ _ _ rfl (hown.out.alloc _) ⟨wr.heap.size, 0, none⟩ 1 1 [.int .u64 y] rfl rfl (cells_new _ _ _ (by simp)) (by simp [Value.oneCell']) (by simp only [maxLen]; omega) (by omega) (by simp; omega) ?_; intro v' w6 hown6 hgrow6 hnil6) | fail)
      go_roundw
      case rel => exact ⟨k + 1, by go_num, by omega, hid (by rw [← happ.out]; exact hown6), (hxr.alloc _).grown hgrow6 (fun t e => (hown.out.lt t e).1)⟩
      case measure => simp [intOf]; omega
    · obtain rfl : k = n := by omega
      obtain ⟨a5, c5, rfl, c52, hI⟩ := owns_ints hown.out
      have HI := hid hI
      clear hI c52 hown
      go_wp2_with fail
      go_ret
      exact ⟨_, rfl, HI.out, hxr⟩

/-- how many of the first k stand wrong ahead of the i-th -/
def gtTo (p : List Int) (i k : Nat) : Nat := (p.take k).countP fun x => decide (p.getD i 0 < x)
theorem gtTo_le (p : List Int) (i k : Nat) : gtTo p i k ≤ k := Nat.le_trans List.countP_le_length (by simp; omega)
theorem take_snoc_getD {p : List Int} {k : Nat} (h : k < p.length) : p.take (k + 1) = p.take k ++ [p.getD k 0] := by
  rw [List.take_succ_eq_append_getElem h]; simp [List.getD, h]
theorem gtTo_succ {p : List Int} {i k : Nat} (h : k < p.length) : gtTo p i (k + 1) = gtTo p i k + if p.getD i 0 < p.getD k 0 then 1 else 0 := by
  unfold gtTo
  rw [take_snoc_getD h, List.countP_append, List.countP_cons, List.countP_nil]
  simp
theorem inv_take_succ {p : List Int} {i : Nat} (h : i < p.length) : invL (p.take (i + 1)) = invL (p.take i) + gtTo p i i := by
  rw [take_snoc_getD h, inv_snoc]; rfl
theorem inv_take_le (p : List Int) : ∀ i, i ≤ p.length → invL (p.take i) ≤ i * p.length
  | 0, _ => by simp [invL]
  | i + 1, h => by
    have := inv_take_le p i (by omega)
    have := gtTo_le p i i
    rw [inv_take_succ (by omega), Nat.succ_mul]
    omega
set_option maxHeartbeats 1000000 in
theorem r6Sign (v : Value) (p : List Int) (w : World) (hv : Ints .i64 w v p) (hn : p.length ≤ 64) : Calls Try.prog 19 #[v] w (RetD (.int .i64 (sgnL p)) w) := by
  have HI := hid (fun i (h : i < p.length) => inv_take_succ h)
  have HG := hid (fun i k (h : k < p.length) => gtTo_succ (i := i) h)
  have HL := hid (fun i (h : i ≤ p.length) => Nat.le_trans (inv_take_le p i h) (Nat.mul_le_mul (show i ≤ 64 by omega) hn))
  obtain ⟨a, cap, rfl, k1, k2, k3⟩ := hv
  have K3 := hid k3
  clear k3
  go_enter Try.func19, Try.ntmps19
  go_wp2_with fail
  go_loopw [4, 3] (fun iv mv wr => ∃ i m : Nat, iv = .int .i64 i ∧ mv = .int .i64 m ∧ i ≤ p.length ∧ Hid (m = invL (p.take i)) ∧ Drw w wr) (fun iv _ _ => p.length - (intOf iv).toNat)
  case atStart => exact ⟨0, 0, rfl, rfl, Nat.zero_le _, hid rfl, Drw.refl _⟩
  case round =>
    obtain ⟨i, m, rfl, rfl, hi, hm, hw⟩ := hrel
    have hmb := HL.out i hi
    rw [← hm.out] at hmb
    by_cases hlt : i < p.length
    · obtain ⟨b, off, rfl, hb, hc⟩ := K3.out (by omega)
      rename World => wo
      have gi := (hw.ext.cells _ _ hb).trans (hc i hlt)
      go_wp2_with fail
      go_loopw [5, 3] (fun kv mv wr => ∃ k q : Nat, kv = .int .i64 k ∧ mv = .int .i64 q ∧ k ≤ i ∧ Hid (q = m + gtTo p i k) ∧ Drw wo wr) (fun kv _ _ => i - (intOf kv).toNat)
      case atStart => exact ⟨0, m, rfl, rfl, Nat.zero_le _, hid (by simp [gtTo]), Drw.refl _⟩
      case round =>
        obtain ⟨k, q, rfl, rfl, hk, hq, hwi⟩ := hrel
        have hqb := gtTo_le p i k
        have hqe := hq.out
        by_cases hlk : k < i
        · have g1 := (hwi.ext.cells _ _ (cell_lt gi)).trans gi
          have g2 := ((hw.trans hwi).ext.cells _ _ hb).trans (hc k (by omega))
          have hs := HG.out i k (by omega)
          obtain ⟨x, ex⟩ : ∃ x, p.getD i 0 = x := ⟨_, rfl⟩
          obtain ⟨y, ey⟩ : ∃ y, p.getD k 0 = y := ⟨_, rfl⟩
          rw [ex] at g1 hs; rw [ey] at g2 hs
          have hqq : q ≤ 4096 + 64 := by omega
          clear ex ey hc
          by_cases hxy : x < y
          · rw [if_pos hxy] at hs
            have e := hid (show q + 1 = m + gtTo p i (k + 1) by omega)
            clear hs hqe hqb
            go_wp2_with fail
            go_quiet (fail)
            go_wp2_with fail
            go_roundw
            case rel => exact ⟨k + 1, q + 1, by go_num, by go_num, by omega, e, hwi.drewN _⟩
            case measure => simp [intOf]; omega
          · rw [if_neg hxy] at hs
            have e := hid (show q = m + gtTo p i (k + 1) by omega)
            clear hs hqe hqb
            go_wp2_with fail
            go_quiet (fail)
            go_wp2_with fail
            go_roundw
            case rel => exact ⟨k + 1, q, by go_num, rfl, by omega, e, hwi.drewN _⟩
            case measure => simp [intOf]; omega
        · obtain rfl : k = i := by omega
          have hs := HI.out k hlt
          have e := hid (show q = invL (p.take (k + 1)) by rw [hs, ← hm.out]; exact hqe)
          clear hs hqe hqb hc
          go_wp2_with fail
          go_roundw
          case rel => exact ⟨k + 1, q, by go_num, rfl, by omega, e, hw.trans hwi⟩
          case measure => simp [intOf]; omega
    · obtain rfl : p.length = i := by omega
      have hs := hid (show invL p = m by rw [hm.out, List.take_length])
      by_cases hp : m % 2 = 0
      · have b1 : ((m : Int) % 2 == 0) = true := by rw [beq_iff_eq]; omega
        have e := hid (show sgnL p = 1 by unfold sgnL; rw [hs.out, if_pos hp])
        clear hp
        go_wp2_with fail
        go_ret
        exact ⟨ret_int e.out.symm, hw⟩
      · have b1 : ((m : Int) % 2 == 0) = false := by rw [beq_eq_false_iff_ne]; omega
        have e := hid (show sgnL p = -1 by unfold sgnL; rw [hs.out, if_neg hp])
        clear hp
        go_wp2_with fail
        go_ret
        exact ⟨ret_int e.out.symm, hw⟩

set_option maxHeartbeats 1000000 in
theorem r6SameD (v u : Value) (xs ys : List Int) (w : World) (hv : Ints .i64 w v xs) (hu : Ints .i64 w u ys) :
    Calls Try.prog 17 #[v, u] w (RetD (.bool (decide (xs = ys))) w) := by
  obtain ⟨a, cap, rfl, h1, h2, h3⟩ := hv
  obtain ⟨a', cap', rfl, k1, k2, k3⟩ := hu
  have H3 := hid h3; have K3 := hid k3
  clear h3 k3
  obtain ⟨D, hD⟩ : ∃ D, decide (xs = ys) = D := ⟨_, rfl⟩
  rw [hD]
  by_cases hl : xs.length = ys.length
  · have b1 : ((xs.length : Int) != (ys.length : Int)) = false := by rw [hl]; simp
    have HD := hid hD
    have Hl := hid hl
    obtain ⟨L, hL⟩ : ∃ L, ys.length = L := ⟨_, rfl⟩
    have HL := hid hL
    rw [hl] at H3 h1 b1 ⊢
    rw [hL] at H3 K3 h1 k1 b1 ⊢
    clear hl hL hD
    go_enter Try.func17, Try.ntmps17
    go_wp2_with fail
    go_loopw [5] (fun i wr => ∃ k : Nat, i = .int .i64 k ∧ k ≤ L ∧ Hid (∀ j, j < k → xs.getD j 0 = ys.getD j 0) ∧ Drw w wr) (fun i _ => L - (intOf i).toNat)
    case atStart => exact ⟨0, rfl, Nat.zero_le _, hid (by simp), Drw.refl _⟩
    case round =>
      obtain ⟨k, rfl, hk, hall, hw⟩ := hrel
      by_cases hlt : k < L
      · obtain ⟨b, off, rfl, hb, hc⟩ := H3.out (by omega)
        obtain ⟨b', off', rfl, hb', hc'⟩ := K3.out (by omega)
        have g1 := (hw.ext.cells _ _ hb).trans (hc k hlt)
        have g2 := (hw.ext.cells _ _ hb').trans (hc' k hlt)
        obtain ⟨x, ex⟩ : ∃ x, xs.getD k 0 = x := ⟨_, rfl⟩
        obtain ⟨y, ey⟩ : ∃ y, ys.getD k 0 = y := ⟨_, rfl⟩
        rw [ex] at g1; rw [ey] at g2
        have Ex := hid ex; have Ey := hid ey
        clear hc hc' ex ey
        by_cases hxy : x = y
        · have b3 : (x != y) = false := by simp [hxy]
          have Hxy := hid hxy
          clear hxy
          go_wp2_with fail
          go_quiet (fail)
          go_wp2_with fail
          go_roundw
          case rel => exact ⟨k + 1, by go_num, by omega, hid (fun j hj => by
            by_cases e : j = k
            · rw [e, Ex.out, Ey.out]; exact Hxy.out
            · exact hall.out j (by omega)), hw.drewN _⟩
          case measure => simp [intOf]; omega
        · have b3 : (x != y) = true := by simp [hxy]
          have Hxy := hid hxy
          clear hxy
          go_wp2_with fail
          go_quiet (fail)
          go_wp2_with fail
          go_ret
          refine ⟨ret_bool ?_, hw.drewN _⟩
          rw [← HD.out]
          symm
          exact decide_eq_false (fun e => Hxy.out (by rw [← Ex.out, ← Ey.out, e]))
      · obtain rfl : L = k := by omega
        go_wp2_with fail
        go_ret
        refine ⟨ret_bool ?_, hw⟩
        rw [← HD.out]
        symm
        exact decide_eq_true (list_ext Hl.out fun j hj => hall.out j (by rw [← HL.out, ← Hl.out]; exact hj))
  · have b1 : ((xs.length : Int) != (ys.length : Int)) = true := by simp; omega
    have e : D = false := by rw [← hD]; exact decide_eq_false (fun e => hl (by rw [e]))
    subst e
    clear hl hD
    go_enter Try.func17, Try.ntmps17
    go_wp2_with fail
    go_ret
    exact ⟨rfl, Drw.refl _⟩
theorem r6Same (v u : Value) (xs ys : List Int) (w : World) (hv : Ints .i64 w v xs) (hu : Ints .i64 w u ys) : Calls Try.prog 17 #[v, u] w (Ret (.bool (decide (xs = ys))) w) := RetD.ret (r6SameD v u xs ys w hv hu)
theorem r6Same_yes (v u : Value) (xs : List Int) (w : World) (hv : Ints .i64 w v xs) (hu : Ints .i64 w u xs) :
    Calls Try.prog 17 #[v, u] w (Ret (.bool true) w) := by
  have := r6Same v u xs xs w hv hu
  rwa [show decide (xs = xs) = true by simp] at this
end Go.Proofs.Ytalkbmnbggclpaa
