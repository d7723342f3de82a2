/- Package matrix: sides, vectors, rows, new matrices. -/
import Derived.Test.YtjdbkbbhjiemdaaCupB8
import Derived.Test.YtjdbkbbhjiemdaaGrid
import Derived.Laws.ResultCell
namespace Go.Proofs.Ytjdbkbbhjiemdaa
open Go.RowKit Go.Maps

theorem results_cell_row_tmp {P : Program} {fn : Func} {p u : Tmp} {ty : TypeId} (h : fn.results = #[.cell p ty, .tmp u]) (tmps : Array Value) (w : World) (g : Nat) (t : TypeId) (cs : Array Value) (fr : Nat × Nat) (d : TypeDesc)
    (hp : tmps.getD p undef = .pointer (some ⟨g, 0, none⟩)) (hg : w.heap[g]? = some (.cells cs t fr))
    (hu : P.underlying ty = some d) (hd : (match d with | .struct _ | .array _ _ => true | _ => false) = true) (hi : (P.info? ty).map (·.size) = some cs.size) :
    (results fn tmps).run P w = .ok (.tuple #[.agg cs, tmps.getD u undef]) w := by
  have hp' : tmps[p]?.getD undef = .pointer (some ⟨g, 0, none⟩) := by simpa using hp
  simp [results, h, hp', asAddr, run_loadVar_row w g t ty cs fr d hg hu hd hi, Result.andThen]

/-- may it be a side? -/
def sideB (n : Int) : Bool := decide (1 ≤ n ∧ n ≤ 64)
theorem mxSide (n : Int) (w : World) : Calls Try.prog 69 #[.int .i64 n] w fun e w' => e = .returned (.bool (sideB n)) ∧ w = w' := by
  by_cases h : 1 ≤ n
  · by_cases h' : n ≤ 64
    all_goals
      go_enter Try.func69, Try.ntmps69
      go_wp2
      go_ret
      exact ⟨ret_bool (by simp [sideB]; omega), rfl⟩
  · go_enter Try.func69, Try.ntmps69
    go_wp2
    go_ret
    exact ⟨ret_bool (by simp [sideB]; omega), rfl⟩
theorem mxSides (r c : Int) (w : World) : Calls Try.prog 55 #[.int .i64 r, .int .i64 c] w fun e w' => e = .returned (.bool (sideB r && sideB c)) ∧ w = w' := by
  cases hB : sideB r
  · go_enter Try.func55, Try.ntmps55
    go_wp2_with (go_at_call 69; refine (mxSide _ _).mono ?_; rintro _ _ ⟨rfl, rfl⟩)
    go_ret
    exact ⟨rfl, rfl⟩
  · go_enter Try.func55, Try.ntmps55
    go_wp2_with (go_at_call 69; refine (mxSide _ _).mono ?_; rintro _ _ ⟨rfl, rfl⟩)
    go_ret
    exact ⟨ret_bool (by simp), rfl⟩
/-- a vector of so many numbers? -/
def vecB (p many : Int) (xs : List Int) : Bool := decide ((xs.length : Int) = many) && hasB p xs
theorem mxVector (p many : Int) (v : Value) (xs : List Int) (w : World) (h0 : 0 ≤ p) (h1 : p ≤ 18446744073709551615) (hv : Ints .u64 w v xs) (hx : U64s xs) :
    Calls Try.prog 57 #[.int .u64 p, v, .int .i64 many] w fun e w' => e = .returned (.bool (vecB p many xs)) ∧ w = w' := by
  have H := hid (has_any p v xs w h0 h1 hv hx)
  obtain ⟨B, hB⟩ : ∃ B, hasB p xs = B := ⟨_, rfl⟩
  unfold vecB
  rw [hB] at H ⊢
  obtain ⟨a, cap, rfl, k1, k2, k3⟩ := hv
  clear k3 hB hx
  by_cases e : (xs.length : Int) = many
  · have b : ((xs.length : Int) == many) = true := by simp [e]
    rw [decide_eq_true e]
    clear e
    go_enter Try.func57, Try.ntmps57
    go_wp2_with (go_at_call 24; refine H.out.mono ?_; rintro _ _ ⟨rfl, rfl⟩)
    go_ret
    exact ⟨ret_bool (by simp), rfl⟩
  · have b : ((xs.length : Int) == many) = false := by simp [e]
    rw [decide_eq_false e]
    clear e
    go_enter Try.func57, Try.ntmps57
    go_wp2_with fail
    go_ret
    exact ⟨rfl, rfl⟩
set_option maxHeartbeats 400000 in
theorem mxRow (r c : Int) (n i b off len cap : Nat) (w : World) (hc : c = n) (hn : 1 ≤ n ∧ n ≤ 64) (hi : i ≤ 64) (h1 : i * n + n ≤ cap) (h2 : cap ≤ 9223372036854775807) :
    Calls Try.prog 58 #[matV r c (.slice (some ⟨b, off, none⟩) len cap), .int .i64 i] w (Ret (.slice (some ⟨b, off + i * n, none⟩) n (cap - i * n)) w) := by
  subst hc
  obtain ⟨q, hq⟩ : ∃ q, i * n = q := ⟨_, rfl⟩
  have hqb : q ≤ 4096 := by rw [← hq]; exact Nat.mul_le_mul hi hn.2
  have hqi : (i : Int) * (n : Int) = (q : Int) := by rw [← hq]; push_cast; rfl
  have hqs : ((i : Int) + 1) * (n : Int) = ((q + n : Nat) : Int) := by rw [Int.add_mul, hqi]; push_cast; omega
  rw [hq] at h1 ⊢
  obtain ⟨m, hm⟩ : ∃ m, q + n = m := ⟨_, rfl⟩
  rw [hm] at hqs h1
  have e : m - q = n := by omega
  have hs := fun W => slice_run b off len cap q m (by omega) h1 (by omega) W
  have hs' := fun W => slice_run' b off len cap q m (by omega) h1 (by omega) W
  rw [e] at hs hs'
  clear hq e
  unfold matV
  go_enter Try.func58, Try.ntmps58
  go_wp2_with fail
  go_ret
  exact ⟨rfl, (by repeat (first | exact Ext.refl _ | assumption | refine Ext.drew ?_ | refine Ext.drewN ?_ _ | refine Ext.alloc ?_ _ | refine Ext.trans ?_ (by assumption)))⟩
set_option maxHeartbeats 400000 in
theorem mxNoughts (r c : Nat) (w : World) (hr : r ≤ 64) (hc : c ≤ 64) :
    Calls Try.prog 70 #[.int .i64 r, .int .i64 c] w fun e w' => ∃ g, e = .returned (matV r c (.slice (some ⟨g, 0, none⟩) (r * c) (r * c))) ∧ w.heap.size ≤ g ∧ WRow w' g 0 (List.replicate (r * c) 0) ∧ Ext w w' := by
  obtain ⟨q, hq⟩ : ∃ q, r * c = q := ⟨_, rfl⟩
  have hqi : (r : Int) * (c : Int) = (q : Int) := by rw [← hq]; push_cast; rfl
  have hqb : q ≤ 4096 := by rw [← hq]; exact Nat.mul_le_mul hr hc
  have hmk := make_ints (P := Try.prog) 23 22 .u64 8 (by omega) (by kernel_rfl) (by kernel_rfl) q q (Nat.le_refl _) (by omega)
  rw [hq]
  clear hq
  unfold matV
  go_enter Try.func70, Try.ntmps70
  go_wp2_with fail
  refine bodyPost_ret (results_cell_row rfl _ _ w.heap.size 25 #[.int .i64 (r : Int), .int .i64 (c : Int), .slice (some ⟨w.heap.size + 1, 0, none⟩) q q] (0, 0) _ rfl (Blk.ext (Blk.new w 25 _) ((Ext.refl _).alloc _)) Try.underlying25 rfl (by kernel_rfl)) rfl ?_
  exact ⟨w.heap.size + 1, rfl, by omega, WRow.made (by rw [alloc_size]), (by repeat (first | exact Ext.refl _ | assumption | refine Ext.drew ?_ | refine Ext.drewN ?_ _ | refine Ext.alloc ?_ _ | refine Ext.trans ?_ (by assumption)))⟩
end Go.Proofs.Ytjdbkbbhjiemdaa
