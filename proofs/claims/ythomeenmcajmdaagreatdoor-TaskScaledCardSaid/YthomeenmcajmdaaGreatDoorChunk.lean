import Derived.Test.YthomeenmcajmdaaGreatDoorBun22
import Derived.Test.YthomeenmcajmdaaGreatDoorBun23
namespace Go.Proofs.YthomeenmcajmdaaGreatDoor
open Go.RowKit Go.Shelf
attribute [local go_sem] Oper.semAt_some
theorem slice_l_run (b off len cap lo : Nat) (h1 : lo ≤ len) (h3 : lo < cap) (w : World) :
    (Instr.slice 24 (.slice (some ⟨b, off, none⟩) len cap) (some (.int .i64 (lo : Int))) none none).run Tryz.prog w = .ok (.slice (some ⟨b, off + lo, none⟩) (len - lo) (cap - lo)) w := by
  have hu : Tryz.prog.underlying 24 = some (.slice (Tryz.prog.elem 24)) := by kernel_rfl
  have hs : ((sizeOf (Tryz.prog.elem 24)).run Tryz.prog w) = .ok 1 w := by kernel_rfl
  rw [run_slice_l w 24 _ len cap hu .i64 lo (by omega) (by omega), hs]
  simp only [Result.andThen, sliced, Int.toNat_natCast]
  rw [if_neg (by omega)]
  simp [Go.WideShapes.add_plain]
theorem slice_lhm_run (b off len cap lo hi : Nat) (h2 : hi ≤ cap) (h3 : lo < hi) (w : World) :
    (Instr.slice 24 (.slice (some ⟨b, off, none⟩) len cap) (some (.int .i64 (lo : Int))) (some (.int .i64 (hi : Int))) (some (.int .i64 (hi : Int)))).run Tryz.prog w = .ok (.slice (some ⟨b, off + lo, none⟩) (hi - lo) (hi - lo)) w := by
  have hu : Tryz.prog.underlying 24 = some (.slice (Tryz.prog.elem 24)) := by kernel_rfl
  have hs : ((sizeOf (Tryz.prog.elem 24)).run Tryz.prog w) = .ok 1 w := by kernel_rfl
  rw [run_slice_lhm w 24 _ len cap hu .i64 .i64 .i64 lo hi hi (by omega) (by omega) (by omega) (by omega), hs]
  simp only [Result.andThen, sliced, Int.toNat_natCast]
  rw [if_neg (by omega)]
  simp [Go.WideShapes.add_plain]
def pieceV (b off c q : Nat) : Value := .slice (some ⟨b, off + q * c, none⟩) c c
set_option maxHeartbeats 1000000 in
theorem chunk_any (a : Option Addr) (len cap c : Nat) (hc : 1 ≤ c) (w : World) :
    Calls Tryz.prog 78 #[.slice a len cap, .int .i64 c] w fun e w' => e = .returned (.func (.func 102) #[] #[.pointer (some ⟨w.heap.size, 0, none⟩), .pointer (some ⟨w.heap.size + 1, 0, none⟩)]) ∧ w' = (w.alloc (.cells #[.slice a len cap] 24)).alloc (.cells #[.int .i64 c] 3) := by
  go_enter Tryz.func78, Tryz.ntmps78
  go_wp2_with fail
  go_ret
  exact ⟨rfl, rfl⟩
set_option maxRecDepth 100000 in
set_option maxHeartbeats 2000000 in
theorem chunk1_in (F : Fence) (n : Nat) (h8 : F.fn 102) (hro : F.round = none) (hn : 1 ≤ n) (l Bs Bn b off L cap m c : Nat) (hL : L = m * c) (hm : m ≤ 64) (hc : 1 ≤ c ∧ c ≤ 64) (hcap : L ≤ cap) (J Jx : List Nat → World → Prop)
    (hY : ∀ pre x W, J pre W → pre.length < m → x < m → YieldAt F (n - 1) Tryz.prog l #[pieceV b off c x] W fun e W' =>
      (e = .returned (.bool true) ∧ J (pre ++ [x]) W' ∧ KeepsRow Bs Bn W W') ∨ (e = .returned (.bool false) ∧ Jx (pre ++ [x]) W'))
    (W : World) (hJ : AbidesFrom W.heap.size J) (hBs : W.cell? ⟨Bs, 0, none⟩ = some (.slice (some ⟨b, off, none⟩) L cap)) (hBn : W.cell? ⟨Bn, 0, none⟩ = some (.int .i64 c)) (h0 : J [] W) :
    CallsIn F n Tryz.prog 102 #[.func (.yield l) #[] #[], .pointer (some ⟨Bs, 0, none⟩), .pointer (some ⟨Bn, 0, none⟩)] W fun e W' => (∃ v, e = .returned v) ∧
      ((∃ ys : List Nat, ys = List.range m ∧ J ys W') ∨ (∃ pre, True ∧ Jx pre W')) := by
  have hLb : L ≤ 4096 := by rw [hL]; exact Nat.mul_le_mul hm hc.2
  have HL := hid hL
  clear hL
  refine callsIn_of_wp Tryz.func102 rfl h8 ?_ hro
  simp only [Tryz.ntmps102, List.size_toArray, List.length_cons, List.length_nil, Nat.reduceAdd, Nat.reduceSub, Array.replicate_succ, Array.replicate_zero, List.push_toArray, List.append_toArray, List.nil_append, List.cons_append]
  gi_wp2
  gi_loopw [4] (fun i wr => ∃ (q o : Nat) (pre : List Nat), i = .int .i64 o ∧ Hid (o = q * c) ∧ q ≤ m ∧ o ≤ L ∧ Hid (pre = List.range q) ∧ J pre wr ∧ KeepsRow Bs Bn W wr)
    (fun i _ => L - (intOf i).toNat)
  case atStart => exact ⟨0, 0, [], rfl, hid (by simp), Nat.zero_le _, Nat.zero_le _, hid rfl, h0, KeepsRow.refl _ _ _⟩
  case round =>
    obtain ⟨q, o, pre, rfl, ho, hq, hoL, hpre, hJs, hnx⟩ := hrel
    have hbx := (hnx.1).trans hBs
    have hbn := (hnx.2 0).trans hBn
    by_cases hlt : o < L
    · have hqm : q < m := by
        rcases Nat.lt_or_ge q m with h | h
        · exact h
        · exfalso
          have : q = m := by omega
          have h1 := ho.out
          have h2 := HL.out
          rw [this] at h1
          omega
      have hoc : o + c ≤ L := by
        rw [ho.out, HL.out, ← Nat.succ_mul]
        exact Nat.mul_le_mul_right _ hqm
      obtain ⟨e, he⟩ : ∃ e, o + c = e := ⟨_, rfl⟩
      have hs1 := fun W => slice_l_run b off L cap o hoL (by omega) W
      have hs2 := fun W => slice_lhm_run b off L cap o e (by omega) (by omega) W
      rw [show e - o = c by omega] at hs2
      have hlo : ((L - o : Nat) : Int) = (L : Int) - (o : Int) := by omega
      have hei : (o : Int) + (c : Int) = (e : Int) := by omega
      have hen : IntKind.i64.wrap (e : Int) = (e : Int) := IntWalk.i64_in _ (by omega)
      have hJd : J pre wr.drew := hJ pre wr wr.drew none hJs ⟨rfl, rfl, rfl, Nat.le_refl _, fun _ _ _ => rfl⟩ (fun r e => by cases e)
      obtain ⟨fn, tmps, assign, body, hy, hR⟩ := hY _ q wr.drew hJd (by rw [hpre.out, List.length_range]; exact hqm) hqm
      unfold pieceV at hy
      rw [← ho.out] at hy
      gi_wp2
      gi_region
      gi_wp2
      all_goals
        refine hR.mono ?_
        rintro e W3 (⟨rfl, hJ3, hk3⟩ | ⟨rfl, hJx3⟩)
        · have hbx3 := (hk3.1).trans hbx
          have hbn3 := (hk3.2 0).trans hbn
          gi_wp2
          go_roundw
          case rel =>
            refine ⟨q + 1, e, pre ++ [q], by go_num, hid (by rw [← he, ho.out, Nat.succ_mul]), by omega, by omega, hid (by rw [hpre.out, List.range_succ]), hJ3, hnx.trans hk3⟩
          case measure => simp [intOf]; omega
        · gi_wp2
          refine bodyPost_ret (results_none rfl _ _ _) rfl ?_
          exact ⟨⟨_, rfl⟩, .inr ⟨_, trivial, hJx3⟩⟩
    · have hqm : q = m := by
        have h1 := ho.out
        have h2 := HL.out
        rcases Nat.lt_or_ge q m with h | h
        · exfalso
          have h3 : q * c + c ≤ m * c := by rw [← Nat.succ_mul]; exact Nat.mul_le_mul_right _ h
          omega
        · omega
      subst hqm
      gi_wp2
      go_end0
      exact ⟨⟨_, rfl⟩, .inl ⟨pre, hpre.out, hJs⟩⟩
end Go.Proofs.YthomeenmcajmdaaGreatDoor
