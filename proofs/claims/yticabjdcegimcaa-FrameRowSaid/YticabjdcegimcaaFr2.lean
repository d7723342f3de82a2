/- Package frame, and the document's own answers: numbers put as bytes. -/
import Derived.Test.YticabjdcegimcaaFr1
namespace Go.Proofs.Yticabjdcegimcaa
open Go.RowKit Go.Maps

theorem byt_get : ∀ (m : Nat) (x : Int) (j : Nat), 0 ≤ x → j < m → (byt x m).getD j 0 = x / 256 ^ (m - 1 - j) % 256
  | 0, _, _, _, h => by omega
  | m + 1, x, j, h0, h => by
    rw [byt]
    by_cases hj : j < m
    · rw [getD_app (by rw [byt_len]; exact hj), byt_get m (x / 256) j (Int.ediv_nonneg h0 (by omega)) hj, Int.ediv_ediv, if_neg (by omega), Int.sub_zero]
      rw [← Int.pow_succ', show m - 1 - j + 1 = m + 1 - 1 - j by omega]
    · obtain rfl : j = m := by omega
      have : (byt (x / 256) j ++ [x % 256]).getD j 0 = x % 256 := by
        simp [List.getD, byt_len]
      rw [this, show j + 1 - 1 - j = 0 by omega]
      simp
theorem byt_next {m j : Nat} {x : Int} (h0 : 0 ≤ x) (h : j < m) : (byt x m).take (j + 1) = (byt x m).take j ++ [x / 2 ^ (8 * (m - 1 - j)) % 256] := by
  rw [take_one (by rw [byt_len]; exact h), byt_get m x j h0 h]
  have : (256 : Int) ^ (m - 1 - j) = 2 ^ (8 * (m - 1 - j)) := by rw [Int.pow_mul]; rfl
  rw [this]
theorem bytes_map (l : List Int) (x : Int) : l.map (Value.int .u8) ++ [Value.int .u8 x] = (l ++ [x]).map (Value.int .u8) := by simp

/-- what a call answers: bytes behind those of a row that it was handed -/
def RetB (base : Nat) (l : List Int) (w : World) (e : Ending) (w' : World) : Prop := ∃ v, e = .returned v ∧ w'.ownsRow base 5 1 v l.length (l.map (Value.int .u8)) ∧ Below base w w'
set_option maxRecDepth 100000 in
set_option maxHeartbeats 1000000 in
theorem frPut_ (v : Value) (x : Int) (m base : Nat) (l : List Int) (w : World) (ho : w.ownsRow base 5 1 v l.length (l.map (Value.int .u8))) (hb : base ≤ w.heap.size) (hx : 0 ≤ x ∧ x ≤ 18446744073709551615) (hm : m ≤ 8) (hl : l.length ≤ 1000000) :
    Calls Try.prog 19 #[v, .int .u64 x, .int .i64 m] w (RetB base (l ++ byt x m) w) := by
  obtain ⟨i0, hi, hz0, hz1, hz2⟩ := info_parts info_u8p
  obtain ⟨a0, c0, rfl, -, -⟩ := own_nums ho
  have HO := hid ho
  have hB := hid hb
  obtain ⟨L, hL⟩ : ∃ L, l.length = L := ⟨_, rfl⟩
  rw [hL] at HO hl ⊢
  have HL := hid hL
  clear ho hL hb
  go_enter Try.func19, Try.ntmps19
  go_wp2_with fail
  go_loopw [0, 7] (fun v i wr => ∃ (j : Nat) (r : List Int), i = .int .i64 ((m : Int) - 1 - j) ∧ j ≤ m ∧ Hid (r = l ++ (byt x m).take j) ∧ Hid (wr.ownsRow base 5 1 v (L + j) (r.map (Value.int .u8))) ∧ Hid (Below base w wr)) (fun _ i _ => (intOf i + 1).toNat)
  case atStart => exact ⟨0, l, by go_num, Nat.zero_le _, hid (by simp), HO, hid (Below.refl _ _)⟩
  case round =>
    obtain ⟨j, r, rfl, hj, hr, hown, hbl⟩ := hrel
    rename World => wr
    by_cases hlt : j < m
    · obtain ⟨q, hq⟩ : ∃ q : Nat, m = q + 1 + j := ⟨m - 1 - j, by omega⟩
      have hqi : (m : Int) - 1 - (j : Int) = (q : Int) := by omega
      have hn := byt_next (m := m) (j := j) hx.1 hlt
      rw [show m - 1 - j = q by omega] at hn
      rw [hqi]
      have hq8 : q ≤ 7 := by omega
      obtain ⟨y, ey⟩ : ∃ y, x / 2 ^ (8 * q) = y := ⟨_, rfl⟩
      have hy : 0 ≤ y := by rw [← ey]; exact Int.ediv_nonneg hx.1 (Int.pow_nonneg (by omega))
      rw [ey] at hn
      have ht : ((8 : Int) * (q : Int)).toNat = 8 * q := by omega
      have hyw : IntKind.u8.wrap y = y % 256 := by simp [IntKind.wrap, IntKind.bits, IntKind.signed]
      have HY := hid hy
      obtain ⟨z, ez⟩ : ∃ z, y % 256 = z := ⟨_, rfl⟩
      rw [ez] at hn hyw
      have HN := hid hn
      obtain ⟨ac, cc, e, -, -⟩ := own_nums hown.out
      subst e
      clear hn ez hq hy
      go_wp2_with (at_builtin; refine wpList_append_own _ rfl _ _ 26 rfl base 5 i0 (.int .u8 0) 1 1 Try.underlying26 hi hz0 hz1 hz2 rfl (by decide) _ _ _ rfl (ownsRow_ext hown.out (by repeat (first | exact Ext.refl _ | assumption | refine Ext.drew ?_ | refine Ext.drewN ?_ _ | refine Ext.alloc ?_ _ | refine Ext.trans ?_ (by assumption)))) ⟨wr.heap.size, 0, none⟩ 1 1 [.int .u8 z] rfl rfl (cells_new _ _ _ (by simp)) (by simp [Value.oneCell']) (by simp only [maxLen]; omega) (by omega) (by have := hB.out; have := hbl.out.size; simp; omega) ?_; intro v1 w1 hown1 hgrow1 _)
      go_roundw
      case rel =>
        refine ⟨j + 1, r ++ [z], by go_num, by omega, hid (by rw [HN.out, hr.out, List.append_assoc]), hid ?_, hid ((hbl.out.alloc (by have := hB.out; have := hbl.out.size; omega) _).grown hgrow1 (by have := hB.out; have := hbl.out.size; simp; omega) (fun k e => (hown.out.lt k e).1))⟩
        rw [← bytes_map]; exact hown1
      case measure => simp [intOf]
    · obtain rfl : j = m := by omega
      have hr2 : r = l ++ byt x j := by rw [hr.out, List.take_of_length_le (by rw [byt_len]; exact Nat.le_refl _)]
      have hlr : (l ++ byt x j).length = L + j := by rw [List.length_append, byt_len, HL.out]
      have HR := hid hr2; have HLR := hid hlr
      obtain ⟨ac, cc, e, -, -⟩ := own_nums hown.out
      subst e
      clear hr2 hlr
      go_wp2_with fail
      go_ret
      exact ⟨_, rfl, by rw [HLR.out, ← HR.out]; exact hown.out, hbl.out⟩
/-- what a call answers: bytes, in memory of its own -/
def RetY (l : List Int) (w : World) (e : Ending) (w' : World) : Prop := ∃ v, e = .returned v ∧ w'.ownsRow w.heap.size 5 1 v l.length (l.map (Value.int .u8)) ∧ Ext w w'
set_option maxRecDepth 100000 in
set_option maxHeartbeats 1000000 in
theorem r11bytes : ∀ (m : Nat) (x : Int) (w : World), 0 ≤ x ∧ x ≤ 18446744073709551615 → m ≤ 8 → Calls Try.prog 20 #[.int .u64 x, .int .i64 m] w (RetY (byt x m) w) := by
  obtain ⟨i0, hi, hz0, hz1, hz2⟩ := info_parts info_u8p
  intro m
  induction m with
  | zero =>
    intro x w hx _
    go_enter Try.func20, Try.ntmps20
    go_wp2_with fail
    go_ret
    exact ⟨_, rfl, World.ownsRow_nil _ _ _ _, Ext.refl _⟩
  | succ m ih =>
    intro x w hx hm
    obtain ⟨q, eq⟩ : ∃ q, x / 256 = q := ⟨_, rfl⟩
    obtain ⟨r, er⟩ : ∃ r, x % 256 = r := ⟨_, rfl⟩
    have hq : 0 ≤ q ∧ q ≤ 18446744073709551615 := by omega
    have hr : 0 ≤ r ∧ r < 256 := by omega
    have C := hid fun (W : World) => ih q W hq (by omega)
    have eb : byt x (m + 1) = byt q m ++ [r] := by rw [byt, eq, er]
    have hl := byt_len m q
    have t1 : x.tdiv 256 = q := by rw [Int.tdiv_eq_ediv_of_nonneg hx.1]; exact eq
    have t2 : x.tmod 256 = r := by rw [Int.tmod_eq_emod_of_nonneg hx.1]; exact er
    rw [eb]
    obtain ⟨l, el⟩ : ∃ l, byt q m = l := ⟨_, rfl⟩
    rw [el] at C hl ⊢
    have HL := hid hl
    clear ih eb el hl eq er
    go_enter Try.func20, Try.ntmps20
    go_wp2_with fail
    refine (C.out _).mono ?_
    rintro _ w1 ⟨v1, rfl, o1, x1⟩
    rw [HL.out] at o1
    have O1 := hid o1
    obtain ⟨ac, cc, e, -, -⟩ := own_nums o1
    subst e
    clear o1
    have hsz := x1.size
    go_wp2_with (at_builtin; refine wpList_append_own _ rfl _ _ 26 rfl w.heap.size 5 i0 (.int .u8 0) 1 1 Try.underlying26 hi hz0 hz1 hz2 rfl (by decide) _ _ _ rfl (O1.out.alloc _) ⟨w1.heap.size, 0, none⟩ 1 1 [.int .u8 r] rfl rfl (cells_new _ _ _ (by simp)) (by simp [Value.oneCell']) (by simp only [maxLen]; omega) (by omega) (by simp; omega) ?_; intro v2 w2 hown2 hgrow2 _)
    go_ret
    refine ⟨_, rfl, ?_, (x1.alloc _).grown hgrow2 (fun k e => (O1.out.lt k e).1)⟩
    rw [List.length_append, HL.out, ← bytes_map]
    exact hown2
end Go.Proofs.Yticabjdcegimcaa
