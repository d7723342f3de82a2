/- Package frame, and the document's own answers: sums, and numbers as bytes tell them. -/
import Derived.Test.YticabjdcegimcaaFr0
import Derived.Deep.RegionLaw
import Derived.Laws.BitsAllLaws
namespace Go.Proofs.Yticabjdcegimcaa
open Go.RowKit Go.Maps

/-- what is told of the sum -/
def sumZ (xs : List Int) : Int := if xs.length ≤ 131072 then sumL xs else 0
theorem take_one {xs : List Int} {k : Nat} (h : k < xs.length) : xs.take (k + 1) = xs.take k ++ [xs.getD k 0] := by
  rw [List.take_succ_eq_append_getElem h]
  simp [List.getD, h]
theorem wsum_take {xs : List Int} {k : Nat} (h : k < xs.length) : wsum 0 (xs.take (k + 1)) = wsum 0 (xs.take k) + ((k : Int) + 1) * xs.getD k 0 := by
  rw [take_one h, wsum_append, Nat.zero_add, List.length_take, Nat.min_eq_left (by omega)]
  simp [wsum]
theorem place_bound {x : Int} {k : Nat} (hk : k < 131072) (hx : 0 ≤ x ∧ x < 256) : 0 ≤ ((k : Int) + 1) * x ∧ ((k : Int) + 1) * x ≤ 33423360 := by
  refine ⟨Int.mul_nonneg (by omega) hx.1, ?_⟩
  have := Int.mul_le_mul (show (k : Int) + 1 ≤ 131072 by omega) (show x ≤ 255 by omega) hx.1 (by omega)
  omega
theorem wsum_bound {xs : List Int} (hx : Byt xs) : ∀ k : Nat, k ≤ xs.length → k ≤ 131072 → 0 ≤ wsum 0 (xs.take k) ∧ wsum 0 (xs.take k) ≤ k * 33423360
  | 0, _, _ => by simp [wsum]
  | k + 1, h, h2 => by
    obtain ⟨a, b⟩ := wsum_bound hx k (by omega) (by omega)
    obtain ⟨c, d⟩ := place_bound (x := xs.getD k 0) (show k < 131072 by omega) (hx.get k)
    rw [wsum_take (by omega)]
    constructor <;> omega
theorem ofB_take {xs : List Int} {k : Nat} (h : k < xs.length) : ofB (xs.take (k + 1)) = ofB (xs.take k) * 256 + xs.getD k 0 := by
  rw [take_one h, ofB_snoc]

set_option maxHeartbeats 1000000 in
theorem frSum (v : Value) (xs : List Int) (w : World) (hv : Ints .u8 w v xs) (hx : Byt xs) : Calls Try.prog 15 #[v] w fun e w' => e = .returned (.int .i64 (sumZ xs)) ∧ w = w' := by
  unfold sumZ
  obtain ⟨a, cap, rfl, h1, h2, h3⟩ := hv
  have H3 := hid h3; have HX := hid hx
  clear h3 hx
  by_cases hl : xs.length ≤ 131072
  · rw [if_pos hl]
    obtain ⟨N, hN⟩ : ∃ N, xs.length = N := ⟨_, rfl⟩
    rw [hN] at H3 h1 hl ⊢
    have HN := hid hN
    clear hN
    go_enter Try.func15, Try.ntmps15
    go_wp2_with fail
    go_loopw [3, 4, 5, 11] (fun s _ _ i wr => ∃ (k : Nat) (S : Int), i = .int .i64 k ∧ k ≤ N ∧ s = .int .u64 S ∧ Hid (S = wsum 0 (xs.take k)) ∧ 0 ≤ S ∧ S ≤ k * 33423360 ∧ w = wr) (fun _ _ _ i _ => N - (intOf i).toNat)
    case atStart => exact ⟨0, 0, rfl, Nat.zero_le _, rfl, hid (by simp [wsum]), by omega, by omega, rfl⟩
    case round =>
      obtain ⟨k, S, rfl, hk, rfl, hS, hS0, hS1, rfl⟩ := hrel
      by_cases hlt : k < N
      · obtain ⟨b, off, rfl, hb, hc⟩ := H3.out (by omega)
        have g := hc k hlt
        have hbx := HX.out.get k
        have hpb := place_bound (show k < 131072 by omega) hbx
        have hst := wsum_take (xs := xs) (k := k) (by rw [HN.out]; exact hlt)
        rw [← hS.out] at hst
        obtain ⟨x, ex⟩ : ∃ x, xs.getD k 0 = x := ⟨_, rfl⟩
        rw [ex] at g hbx hpb hst
        obtain ⟨m, em⟩ : ∃ m : Int, (k : Int) + 1 = m := ⟨_, rfl⟩
        have hm : 0 ≤ m ∧ m ≤ 131072 := by omega
        rw [em] at hpb hst
        obtain ⟨q, eq⟩ : ∃ q, m * x = q := ⟨_, rfl⟩
        rw [eq] at hpb hst
        have Hst := hid hst; have Eq := hid eq
        clear hc ex hst
        go_wp2_with fail
        go_roundw
        case rel => exact ⟨k + 1, S + q, by go_num, by omega, by go_num, hid Hst.out.symm, by omega, by omega, trivial⟩
        case measure => simp [intOf]; omega
      · obtain rfl : k = N := by omega
        have hSS : S % 16777213 = sumL xs := by unfold sumL; rw [hS.out, ← HN.out, List.take_length]
        have HSS := hid hSS
        clear hSS
        have ht : S.tmod 16777213 = S % 16777213 := Int.tmod_eq_emod_of_nonneg hS0
        go_wp2_with fail
        go_ret
        exact ⟨ret_int (by rw [← HSS.out]), rfl⟩
  · rw [if_neg hl]
    clear H3
    go_enter Try.func15, Try.ntmps15
    go_wp2_with fail
    go_ret
    exact ⟨rfl, rfl⟩
theorem or_byte {S x : Int} (h0 : 0 ≤ S) (h1 : S ≤ 72057594037927935) (hx : 0 ≤ x ∧ x < 256) : bits BinOp.or IntKind.u64 (S * 256) x = S * 256 + x := by
  obtain ⟨n, rfl⟩ := Int.eq_ofNat_of_zero_le h0
  obtain ⟨m, rfl⟩ := Int.eq_ofNat_of_zero_le hx.1
  have e : (n : Int) * 256 = ((n * 256 : Nat) : Int) := by omega
  rw [e, u64_or_nat _ _ (by omega) (by omega), show n * 256 = n <<< 8 by rw [Nat.shiftLeft_eq], ← Nat.shiftLeft_add_eq_or_of_lt (show m < 2 ^ 8 by omega), Nat.shiftLeft_eq]
  omega
theorem pow_le {k : Nat} (h : k ≤ 7) : (256 : Int) ^ k ≤ 72057594037927936 := by
  have : ∀ k : Fin 8, (256 : Int) ^ k.val ≤ 72057594037927936 := by decide
  exact this ⟨k, by omega⟩
set_option maxHeartbeats 1000000 in
theorem frNumber (v : Value) (xs : List Int) (w : World) (hv : Ints .u8 w v xs) (hx : Byt xs) (hl : xs.length ≤ 8) : Calls Try.prog 22 #[v] w fun e w' => e = .returned (.int .u64 (ofB xs)) ∧ w = w' := by
  obtain ⟨a, cap, rfl, h1, h2, h3⟩ := hv
  have H3 := hid h3; have HX := hid hx
  clear h3 hx
  obtain ⟨N, hN⟩ : ∃ N, xs.length = N := ⟨_, rfl⟩
  rw [hN] at H3 h1 hl ⊢
  have HN := hid hN
  clear hN
  go_enter Try.func22, Try.ntmps22
  go_wp2_with fail
  go_loopw [3, 5, 8] (fun s _ i wr => ∃ (k : Nat) (S : Int), i = .int .i64 k ∧ k ≤ N ∧ s = .int .u64 S ∧ Hid (S = ofB (xs.take k)) ∧ w = wr) (fun _ _ i _ => N - (intOf i).toNat)
  case atStart => exact ⟨0, 0, rfl, Nat.zero_le _, rfl, hid (by simp [ofB]), rfl⟩
  case round =>
    obtain ⟨k, S, rfl, hk, rfl, hS, rfl⟩ := hrel
    by_cases hlt : k < N
    · obtain ⟨b, off, rfl, hb, hc⟩ := H3.out (by omega)
      have g := hc k hlt
      have hbx := HX.out.get k
      have hst := ofB_take (xs := xs) (k := k) (by rw [HN.out]; exact hlt)
      rw [← hS.out] at hst
      have hbd := ofB_range (HX.out.take k)
      rw [← hS.out, List.length_take, HN.out, Nat.min_eq_left hk] at hbd
      have hbd : 0 ≤ S ∧ S ≤ 72057594037927935 := ⟨hbd.1, by have := pow_le (show k ≤ 7 by omega); omega⟩
      obtain ⟨x, ex⟩ : ∃ x, xs.getD k 0 = x := ⟨_, rfl⟩
      rw [ex] at g hbx hst
      have Hst := hid hst
      clear hc ex hst
      go_wp2_with fail
      go_roundw
      case rel => exact ⟨k + 1, S * 256 + x, by go_num, by omega, by rw [or_byte hbd.1 (by omega) hbx], hid Hst.out.symm, trivial⟩
      case measure => simp [intOf]; omega
    · obtain rfl : k = N := by omega
      have hSS : S = ofB xs := by rw [hS.out, ← HN.out, List.take_length]
      have HSS := hid hSS
      clear hSS
      go_wp2_with fail
      go_ret
      exact ⟨ret_int HSS.out, rfl⟩
theorem take_get {xs : List Int} {n k : Nat} (h : k < n) : (xs.take n).getD k 0 = xs.getD k 0 := by simp [List.getD, h]
set_option maxHeartbeats 1000000 in
theorem r11Of : ∀ (n : Nat) (v : Value) (xs : List Int) (w : World), xs.length = n → Ints .u8 w v xs → Byt xs → n ≤ 8 → Calls Try.prog 24 #[v] w (RetD (.int .u64 (ofB xs)) w) := by
  intro n
  induction n with
  | zero =>
    intro v xs w hn hv hx _
    obtain rfl := List.eq_nil_of_length_eq_zero hn
    obtain ⟨a, cap, rfl, h1, h2⟩ := hv.shape
    clear hv
    go_enter Try.func24, Try.ntmps24
    go_wp2_with fail
    go_ret
    exact ⟨rfl, Drw.refl _⟩
  | succ n ih =>
    intro v xs w hn hv hx h8
    obtain ⟨a, cap, rfl, h1, h2⟩ := hv.shape
    rw [hn] at hv
    obtain ⟨b, off, rfl, -, hb, hc⟩ := hv.cell (by omega)
    have g := hid (fun (W : World) (hW : Ext w W) => hc n (by omega) W hW)
    have hbx := hx.get n
    have hof := ofB_take (xs := xs) (k := n) (by omega)
    rw [List.take_of_length_le (by omega)] at hof
    have hbd := ofB_range (hx.take n)
    rw [List.length_take, hn, Nat.min_eq_left (by omega)] at hbd
    have C := hid (fun (W : World) (hW : Ext w W) => ih (.slice (some ⟨b, off, none⟩) n cap) (xs.take n) W (by rw [List.length_take, hn]; omega) ((hv.ext hW).take' n (by omega)) (hx.take n) (by omega))
    have hpw := pow_le (show n ≤ 7 by omega)
    obtain ⟨S, eS⟩ : ∃ S, ofB (xs.take n) = S := ⟨_, rfl⟩
    obtain ⟨x, ex⟩ : ∃ x, xs.getD n 0 = x := ⟨_, rfl⟩
    rw [ex] at g hbx hof
    rw [eS] at C hbd hof
    have hbd : 0 ≤ S ∧ S ≤ 72057594037927935 := ⟨hbd.1, by omega⟩
    rw [hof, hn]
    rw [hn] at h1
    clear hv hc ih hx eS ex hof hn hpw
    go_enter Try.func24, Try.ntmps24
    go_wp2_with fail
    have g1 := fun n => g.out (w.drewN n) (by repeat (first | exact Ext.refl _ | assumption | refine Ext.drew ?_ | refine Ext.drewN ?_ _ | refine Ext.alloc ?_ _ | refine Ext.trans ?_ (by assumption)))
    go_quiet ((go_at_call 24; first | exact quiet_d (C.out _ (by repeat (first | exact Ext.refl _ | assumption | refine Ext.drew ?_ | refine Ext.drewN ?_ _ | refine Ext.alloc ?_ _ | refine Ext.trans ?_ (by assumption)))) | exact quiet_add_d (C.out _ (by repeat (first | exact Ext.refl _ | assumption | refine Ext.drew ?_ | refine Ext.drewN ?_ _ | refine Ext.alloc ?_ _ | refine Ext.trans ?_ (by assumption))))))
    go_wp2_with fail
    go_ret
    exact ⟨rfl, (Drw.refl _).drewN _⟩
set_option maxHeartbeats 1000000 in
theorem r11Sum (v : Value) (xs : List Int) (w : World) (hv : Ints .u8 w v xs) (hx : Byt xs) : Calls Try.prog 16 #[v] w fun e w' => e = .returned (.int .i64 (sumZ xs)) ∧ w = w' := by
  unfold sumZ
  obtain ⟨a, cap, rfl, h1, h2, h3⟩ := hv
  have H3 := hid h3; have HX := hid hx
  clear h3 hx
  by_cases hl : xs.length ≤ 131072
  · rw [if_pos hl]
    obtain ⟨N, hN⟩ : ∃ N, xs.length = N := ⟨_, rfl⟩
    rw [hN] at H3 h1 hl ⊢
    have HN := hid hN
    clear hN
    go_enter Try.func16, Try.ntmps16
    go_wp2_with fail
    go_loopw [3, 4, 5] (fun s i _ wr => ∃ (k : Nat) (S : Int), i = .int .i64 k ∧ k ≤ N ∧ s = .int .i64 S ∧ Hid (S = sumL (xs.take k)) ∧ 0 ≤ S ∧ S < 16777213 ∧ w = wr) (fun _ i _ _ => N - (intOf i).toNat)
    case atStart => exact ⟨0, 0, rfl, Nat.zero_le _, rfl, hid (by simp [sumL, wsum]), by omega, by omega, rfl⟩
    case round =>
      obtain ⟨k, S, rfl, hk, rfl, hS, hS0, hS1, rfl⟩ := hrel
      by_cases hlt : k < N
      · obtain ⟨b, off, rfl, hb, hc⟩ := H3.out (by omega)
        have g := hc k hlt
        have hbx := HX.out.get k
        have hpb := place_bound (show k < 131072 by omega) hbx
        have hst := sum_snoc (xs.take k) (xs.getD k 0)
        rw [← take_one (by rw [HN.out]; exact hlt), ← hS.out, List.length_take, HN.out, Nat.min_eq_left hk] at hst
        obtain ⟨x, ex⟩ : ∃ x, xs.getD k 0 = x := ⟨_, rfl⟩
        rw [ex] at g hbx hpb hst
        obtain ⟨X, rfl⟩ := Int.eq_ofNat_of_zero_le hbx.1
        have Hst := hid hst
        clear hc ex hst
        go_wp2_with fail
        go_loopw [3, 5] (fun s i wr => ∃ (j : Nat) (T : Int), i = .int .i64 j ∧ j ≤ X ∧ s = .int .i64 T ∧ Hid (T = S + ((k : Int) + 1) * j) ∧ 0 ≤ T ∧ T ≤ 16777213 + 131072 * j ∧ w = wr) (fun _ i _ => X - (intOf i).toNat)
        case atStart => exact ⟨0, S, rfl, Nat.zero_le _, rfl, hid (by simp), by omega, by omega, rfl⟩
        case round =>
          obtain ⟨j, T, rfl, hj, rfl, hT, hT0, hT1, rfl⟩ := hrel
          by_cases hlj : j < X
          · have hTn : T + (k : Int) + 1 = S + ((k : Int) + 1) * ((j + 1 : Nat) : Int) := by
              rw [hT.out]; push_cast; rw [Int.mul_add]; omega
            have HT := hid hTn
            clear hTn
            go_wp2_with fail
            go_roundw
            case rel => exact ⟨j + 1, T + k + 1, by go_num, by omega, by go_num, HT, by omega, by omega, trivial⟩
            case measure => simp [intOf]; omega
          · obtain rfl : j = X := by omega
            have hTm : T.tmod 16777213 = sumL (xs.take (k + 1)) := by rw [Int.tmod_eq_emod_of_nonneg hT0, Hst.out, hT.out]
            have hr := sumL_range (xs.take (k + 1))
            obtain ⟨Z, eZ⟩ : ∃ Z, sumL (xs.take (k + 1)) = Z := ⟨_, rfl⟩
            rw [eZ] at hTm hr
            have EZ := hid eZ
            clear eZ
            go_wp2_with fail
            go_roundw
            case rel => exact ⟨k + 1, Z, by go_num, by omega, by go_num, hid EZ.out.symm, by omega, by omega, trivial⟩
            case measure => simp [intOf]; omega
      · obtain rfl : k = N := by omega
        have hSS : S = sumL xs := by rw [hS.out, ← HN.out, List.take_length]
        have HSS := hid hSS
        clear hSS
        go_wp2_with fail
        go_ret
        exact ⟨ret_int HSS.out, rfl⟩
  · rw [if_neg hl]
    by_cases h0 : 0 < xs.length
    · go_enter Try.func16, Try.ntmps16
      go_wp2_with fail
      go_loopw [3, 4, 5] (fun s i _ wr => i = .int .i64 0 ∧ s = .int .i64 0 ∧ w = wr) (fun _ i _ _ => 0)
      case atStart => exact ⟨rfl, rfl, rfl⟩
      case round =>
        obtain ⟨rfl, rfl, rfl⟩ := hrel
        go_wp2_with fail
        go_ret
        exact ⟨rfl, rfl⟩
    · omega
end Go.Proofs.Yticabjdcegimcaa
