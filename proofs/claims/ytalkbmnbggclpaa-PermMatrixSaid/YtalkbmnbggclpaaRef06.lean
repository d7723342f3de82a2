/- The document's own answers of layer 6: Find, Right, Then, Back, Do, Same. -/
import Derived.Test.YtalkbmnbggclpaaRingM
import Derived.Test.YtalkbmnbggclpaaOwn
namespace Go.Proofs.Ytalkbmnbggclpaa
open Go.RowKit Go.Maps

/-- the place of a number, or -1 -/
def findZ (p : List Int) (n : Int) : Int := match p.findIdx? fun y => y == n with | some i => (i : Int) | none => -1
theorem findZ_some {p : List Int} {n : Int} {k : Nat} (hk : k < p.length) (h : p.getD k 0 = n) (hl : ∀ j, j < k → p.getD j 0 ≠ n) : findZ p n = k := by
  have e : p.findIdx? (fun y => y == n) = some k := by
    rw [List.findIdx?_eq_some_iff_getElem]
    refine ⟨hk, by simpa [List.getD, hk] using h, fun j hj => ?_⟩
    have := hl j hj
    simpa [List.getD, show j < p.length by omega] using this
  unfold findZ
  rw [e]
theorem findZ_none {p : List Int} {n : Int} (hl : ∀ j, j < p.length → p.getD j 0 ≠ n) : findZ p n = -1 := by
  have e : p.findIdx? (fun y => y == n) = none := by
    rw [List.findIdx?_eq_none_iff]
    intro x hx
    obtain ⟨j, hj, rfl⟩ := List.getElem_of_mem hx
    have := hl j hj
    simpa [List.getD, hj] using this
  unfold findZ
  rw [e]
theorem findZ_mem {p : List Int} {n : Int} : 0 ≤ findZ p n ↔ n ∈ p := by
  unfold findZ
  cases e : p.findIdx? fun y => y == n with
  | none =>
    rw [List.findIdx?_eq_none_iff] at e
    constructor
    · intro h; simp at h
    · intro h; have := e n h; simp at this
  | some i =>
    rw [List.findIdx?_eq_some_iff_getElem] at e
    obtain ⟨hi, h1, _⟩ := e
    constructor
    · intro _
      have : p[i] = n := by simpa using h1
      rw [← this]; exact List.getElem_mem hi
    · intro _; simp
theorem findZ_lt (p : List Int) (n : Int) : -1 ≤ findZ p n ∧ findZ p n < p.length + 1 := by
  unfold findZ
  cases e : p.findIdx? fun y => y == n with
  | none => simp; omega
  | some i =>
    rw [List.findIdx?_eq_some_iff_getElem] at e
    obtain ⟨hi, _⟩ := e
    simp; omega
theorem Ord.findZ {n : Nat} {p : List Int} (h : Ord n p) {k : Nat} (hk : k < n) : findZ p k = atL p k := by
  obtain ⟨i, hi, e⟩ := h.find hk
  rw [findZ_some (k := i) (by rw [h.len]; exact hi) e fun j hj e2 => by
    have := h.inj (by omega) hi (e2.trans e.symm); omega, ← e, h.at_ hi]
/-- is it an order? -/
def ordB (p : List Int) : Bool := decide (0 < p.length) && (decide (p.length ≤ 64) && (List.range p.length).all fun k => decide (0 ≤ Go.Proofs.Ytalkbmnbggclpaa.findZ p k))
theorem ordB_iff {p : List Int} : ordB p = true ↔ 0 < p.length ∧ p.length ≤ 64 ∧ Ord p.length p := by
  unfold ordB
  simp only [Bool.and_eq_true, decide_eq_true_eq, List.all_eq_true, List.mem_range]
  exact ⟨fun ⟨h1, h2, h3⟩ => ⟨h1, h2, rfl, fun k hk => findZ_mem.1 (h3 k hk)⟩, fun ⟨h1, h2, h3⟩ => ⟨h1, h2, fun k hk => findZ_mem.2 (h3.has k hk)⟩⟩
theorem Ord.b {n : Nat} {p : List Int} (h : Ord n p) (h0 : 0 < n) (h1 : n ≤ 64) : ordB p = true := ordB_iff.2 ⟨by rw [h.len]; exact h0, by rw [h.len]; exact h1, h.len.symm ▸ h⟩

theorem info_i64p : (Try.prog.info? 3).map (fun i => (i.zero, i.size, i.bytes)) = some (some (.int .i64 0), 1, 8) := by kernel_rfl
/-- a row that a call made reads as its numbers -/
theorem owns_ints {w : World} {base n : Nat} {e : TypeId} {k : IntKind} {v : Value} {xs : List Int} (h : w.ownsRow base e 1 v n (xs.map (Value.int k))) : ∃ a cap, v = .slice a n cap ∧ xs.length = n ∧ Ints k w v xs := by
  have hl : xs.length = n := by have := h.1; simpa using this
  have h0 := h
  obtain ⟨_, ⟨rfl, h1⟩ | ⟨g, cap, cur, rfl, hg, hb, hc1, hc2, hs, ht⟩⟩ := h
  · obtain rfl : n = 0 := by simpa using h1
    obtain rfl : xs = [] := List.eq_nil_of_length_eq_zero hl
    exact ⟨none, 0, rfl, rfl, Ints.nil⟩
  · refine ⟨_, cap, rfl, hl, ⟨some ⟨g, 0, none⟩, cap, by rw [hl], by omega, by unfold maxLen at hc2; omega, fun _ => ⟨g, 0, rfl, Blk.lt (t := e) (cs := cur) hb, fun j hj => ?_⟩⟩⟩
    rw [Nat.zero_add, h0.cellAt j (by omega)]
    simp [hj, List.getD]
/-- what a call answers: whole numbers -/
def RetI (l : List Int) (w : World) (e : Ending) (w' : World) : Prop := ∃ v, e = .returned v ∧ Ints .i64 w' v l ∧ Ext w w'

set_option maxHeartbeats 400000 in
theorem r6Find (v : Value) (p : List Int) (n : Int) (w : World) (hv : Ints .i64 w v p) : Calls Try.prog 43 #[v, .int .i64 n] w (RetD (.int .i64 (findZ p n)) w) := by
  obtain ⟨F, hF⟩ : ∃ F, findZ p n = F := ⟨_, rfl⟩
  have HF := hid hF
  rw [hF]
  obtain ⟨a, cap, rfl, k1, k2, k3⟩ := hv
  have K3 := hid k3
  clear k3 hF
  go_enter Try.func43, Try.ntmps43
  go_wp2_with fail
  go_loopw [5] (fun iv wr => ∃ k : Nat, iv = .int .i64 k ∧ k ≤ p.length ∧ Hid (∀ j, j < k → p.getD j 0 ≠ n) ∧ Drw w wr) (fun iv _ => p.length - (intOf iv).toNat)
  case atStart => exact ⟨0, rfl, Nat.zero_le _, hid (by simp), Drw.refl _⟩
  case round =>
    obtain ⟨k, rfl, hk, hall, hw⟩ := hrel
    by_cases hlt : k < p.length
    · obtain ⟨b, off, rfl, hb, hc⟩ := K3.out (by omega)
      have g1 := (hw.ext.cells _ _ hb).trans (hc k hlt)
      obtain ⟨x, ex⟩ : ∃ x, p.getD k 0 = x := ⟨_, rfl⟩
      rw [ex] at g1
      have Ex := hid ex
      clear hc ex
      by_cases hxy : x = n
      · have b3 : (x == n) = true := by simp [hxy]
        have Hxy := hid hxy
        clear hxy
        go_wp2_with fail
        go_ret
        exact ⟨ret_int (by rw [← HF.out]; exact (findZ_some hlt (Ex.out.trans Hxy.out) hall.out).symm), hw⟩
      · have b3 : (x == n) = false := by simp [hxy]
        have Hxy := hid hxy
        clear hxy
        go_wp2_with fail
        go_roundw
        case rel => exact ⟨k + 1, by go_num, by omega, hid (fun j hj => by
          by_cases e : j = k
          · rw [e, Ex.out]; exact Hxy.out
          · exact hall.out j (by omega)), hw⟩
        case measure => simp [intOf]; omega
    · obtain rfl : p.length = k := by omega
      go_wp2_with fail
      go_ret
      exact ⟨ret_int (by rw [← HF.out]; exact (findZ_none hall.out).symm), hw⟩

set_option maxHeartbeats 400000 in
theorem r6Right (v : Value) (p : List Int) (w : World) (hv : Ints .i64 w v p) : Calls Try.prog 15 #[v] w (RetD (.bool (ordB p)) w) := by
  obtain ⟨O, hO⟩ : ∃ O, ordB p = O := ⟨_, rfl⟩
  rw [hO]
  have CF := hid fun (k : Nat) (W : World) (hW : Ext w W) => r6Find v p k W (hv.ext hW)
  obtain ⟨a, cap, rfl, k1, k2, k3⟩ := hv
  clear k3
  unfold ordB at hO
  by_cases h1 : 0 < p.length
  · by_cases h2 : p.length ≤ 64
    · rw [decide_eq_true h1, decide_eq_true h2, Bool.true_and, Bool.true_and] at hO
      have HO := hid hO
      have b1 : ((p.length : Int) == 0) = false := by rw [beq_eq_false_iff_ne]; omega
      have b2 : decide (64 < (p.length : Int)) = false := decide_eq_false (by omega)
      clear hO
      go_enter Try.func15, Try.ntmps15
      go_wp2_with fail
      go_loopw [3] (fun iv wr => ∃ k : Nat, iv = .int .i64 k ∧ k ≤ p.length ∧ Hid (∀ j : Nat, j < k → 0 ≤ findZ p j) ∧ Drw w wr) (fun iv _ => p.length - (intOf iv).toNat)
      case atStart => exact ⟨0, rfl, Nat.zero_le _, hid (by simp), Drw.refl _⟩
      case round =>
        obtain ⟨k, rfl, hk, hall, hw⟩ := hrel
        by_cases hlt : k < p.length
        · have hC := hid (CF.out k wr hw.ext)
          obtain ⟨z, ez⟩ : ∃ z, findZ p k = z := ⟨_, rfl⟩
          have hz := findZ_lt p k
          rw [ez] at hC hz
          have Ez := hid ez
          clear ez
          by_cases hz0 : 0 ≤ z
          · go_wp2_with (go_at_call 43; refine hC.out.mono ?_; rintro _ w5 ⟨rfl, x5⟩)
            go_roundw
            case rel => exact ⟨k + 1, by go_num, by omega, hid (fun j hj => by
              by_cases e : j = k
              · rw [e, Ez.out]; exact hz0
              · exact hall.out j (by omega)), hw.trans x5⟩
            case measure => simp [intOf]; omega
          · have hf := hid (show O = false by
              rw [← HO.out, Bool.eq_false_iff]
              intro h
              have := List.all_eq_true.1 h k (List.mem_range.2 hlt)
              rw [decide_eq_true_eq, Ez.out] at this
              exact hz0 this)
            go_wp2_with (go_at_call 43; refine hC.out.mono ?_; rintro _ w5 ⟨rfl, x5⟩)
            go_ret
            exact ⟨ret_bool hf.out.symm, hw.trans x5⟩
        · have hf := hid (show O = true by
            rw [← HO.out, List.all_eq_true]
            intro j hj
            have := hall.out j (by have := List.mem_range.1 hj; omega)
            simpa using this)
          clear hall
          go_wp2_with fail
          go_ret
          exact ⟨ret_bool hf.out.symm, hw⟩
    · rw [decide_eq_false h2, Bool.false_and, Bool.and_false] at hO
      subst hO
      have b1 : ((p.length : Int) == 0) = false := by rw [beq_eq_false_iff_ne]; omega
      have b2 : decide (64 < (p.length : Int)) = true := decide_eq_true (by omega)
      go_enter Try.func15, Try.ntmps15
      go_wp2_with fail
      go_ret
      exact ⟨rfl, Drw.refl _⟩
  · obtain h0 : p.length = 0 := by omega
    rw [decide_eq_false h1, Bool.false_and] at hO
    subst hO
    clear CF
    rw [h0]
    have b1 : (((0 : Nat) : Int) == 0) = true := rfl
    clear h0 h1 k1
    go_enter Try.func15, Try.ntmps15
    go_wp2_with fail
    go_ret
    exact ⟨rfl, Drw.refl _⟩

set_option maxRecDepth 100000 in
set_option maxHeartbeats 1000000 in
theorem r6Then (v u : Value) (n : Nat) (p q : List Int) (w : World) (hv : Ints .i64 w v p) (hu : Ints .i64 w u q) (hp : p.length = n) (hq : Ord n q) (hn : n ≤ 64) :
    Calls Try.prog 21 #[v, u] w (RetI (thenL p q) w) := by
  obtain ⟨i0, hi, hz0, hz1, hz2⟩ := info_parts info_i64p
  have Hq := hid hq
  have ht : thenL p q = tab n fun k => p.getD (q.getD k 0).toNat 0 := tab_of (by rw [thenL_len, hq.len]) fun k hk => thenL_get hq.len hk
  rw [ht]
  clear ht
  obtain ⟨a, cap, rfl, k1, k2, k3⟩ := hv
  obtain ⟨a', cap', rfl, m1, m2, m3⟩ := hu
  have K3 := hid k3; have M3 := hid m3
  rw [hp] at k1 K3
  have e := hq.len
  rw [e] at m1 M3
  rw [hp, e]
  clear k3 m3 hp e hq
  obtain ⟨F, hF⟩ : ∃ F : Nat → Int, (fun k => p.getD (q.getD k 0).toNat 0) = F := ⟨_, rfl⟩
  have HF := hid (fun k => (congrFun hF k : p.getD (q.getD k 0).toNat 0 = F k))
  rw [hF]
  clear hF
  go_enter Try.func21, Try.ntmps21
  go_wp2_with fail
  go_loopw [6, 5] (fun iv rv wr => ∃ k : Nat, iv = .int .i64 k ∧ k ≤ n ∧ Hid (wr.ownsRow w.heap.size 3 1 rv k ((tab k F).map (Value.int .i64))) ∧ Ext w wr) (fun iv _ _ => n - (intOf iv).toNat)
  case atStart => exact ⟨0, rfl, Nat.zero_le _, hid (World.ownsRow_nil _ _ _ _), Ext.refl _⟩
  case round =>
    obtain ⟨k, rfl, hk, hown, hxr⟩ := hrel
    have hsz := hxr.size
    by_cases hlt : k < n
    · obtain ⟨b, off, rfl, hb, hc⟩ := K3.out (by omega)
      obtain ⟨b', off', rfl, hb', hc'⟩ := M3.out (by omega)
      have g1 := (hxr.cells _ _ hb').trans (hc' k hlt)
      have hr := Hq.out.get hlt
      have hFk := HF.out k
      obtain ⟨y, ey⟩ : ∃ y, q.getD k 0 = y := ⟨_, rfl⟩
      rw [ey] at g1 hr hFk
      obtain ⟨t, rfl⟩ := Int.eq_ofNat_of_zero_le hr.1
      have htn : t < n := by omega
      have g2 := (hxr.cells _ _ hb).trans (hc t htn)
      rw [Int.toNat_natCast] at hFk
      rw [hFk] at g2
      have happ := hid (show ((tab k F).map (Value.int .i64)) ++ [Value.int .i64 (F k)] = (tab (k + 1) F).map (Value.int .i64) by rw [tab_succ, List.map_append]; rfl)
      obtain ⟨y, ey2⟩ : ∃ y, F k = y := ⟨_, rfl⟩
      rw [ey2] at g2 happ
      clear hc hc' ey ey2 hFk hr
      go_wp2_with (first | (at_builtin; refine wpList_append_own _ rfl _ _ 22 rfl w.heap.size 3 i0 (.int .i64 0) 1 8 Try.underlying22 hi hz0 hz1 hz2 rfl (by decide) _ _ _ rfl (hown.out.alloc _) ⟨wr.heap.size, 0, none⟩ 1 1 [.int .i64 y] rfl rfl (cells_new _ _ _ (by simp)) (by simp [Value.oneCell']) (by simp only [maxLen]; omega) (by omega) (by simp; omega) ?_; intro v' w6 hown6 hgrow6 hnil6) | fail)
      go_roundw
      case rel => exact ⟨k + 1, by go_num, by omega, hid (by rw [← happ.out]; exact hown6), (hxr.alloc _).grown hgrow6 (fun t e => (hown.out.lt t e).1)⟩
      case measure => simp [intOf]; omega
    · obtain rfl : k = n := by omega
      obtain ⟨a5, c5, rfl, c52, hI⟩ := owns_ints hown.out
      have HI := hid hI
      clear hI c52 hown
      go_wp2_with fail
      go_ret
      exact ⟨_, rfl, HI.out, hxr⟩
end Go.Proofs.Ytalkbmnbggclpaa
