/- The least length of a rule, as the document's own answers find it: affidavitref04.Least. -/
import Derived.Test.YtbpbagejblbacaaCan
namespace Go.Proofs.Ytbpbagejblbacaa
open Go.RowKit Go.ChangeShapes Go.WideShapes Go.ChangeAt

/-- equations are solved just if a rule is obeyed -/
theorem sol_ob {p : Int} (hp : 2 ≤ p) {s : List Int} (n : Nat) : (∃ x, ∀ i, i < s.length - n → Sol p n (rowF p s n i) x) ↔ ∃ c, Ob (pol p s) c n s.length := by
  -- the sum at a place, by the first number and the others
  have key : ∀ (c : Ser p) (f : Nat → Int) (i : Nat), c.low (n + 1) → c.co 0 = 1 → (∀ k, k < n → f k % p = c.co (k + 1) % p) → (c * pol p s).co (n + i) = (s.getD (n + i) 0 + sm n fun k => rowF p s n i k * f k) % p := by
    intro c f i hl h1 hf
    rw [Ser.mul_co, cv, sm_piece 0 (n + 1) (n := n + i + 1) (by omega) (fun i h => by omega) (fun j h2 h3 => by rw [hl j (by omega), Int.zero_mul])]
    rw [sm_congr (f := fun j => c.co (0 + j) * (pol p s).co (n + i - (0 + j))) (g := fun j => c.co j * (pol p s).co (n + i - j)) (fun j hj => by rw [Nat.zero_add]), sm_head, h1, Int.one_mul, Nat.sub_zero, Int.add_emod, Int.add_emod (s.getD (n + i) 0)]
    congr 1
    congr 1
    · rw [pol_co, Int.emod_emod_of_dvd _ (Int.dvd_refl _)]
    · refine sm_mod fun k hk => ?_
      rw [rowF_lt p s hk, Int.mul_emod, pol_co, Int.emod_emod_of_dvd _ (Int.dvd_refl _), ← hf k hk, ← Int.mul_emod, Int.mul_comm, show n + i - (k + 1) = n + i - 1 - k by omega]
  have eqv : ∀ (A B : Int), (A + B) % p = 0 ↔ B % p = (0 - A) % p % p := fun A B => by
    rw [Int.emod_emod_of_dvd _ (Int.dvd_refl _)]
    constructor
    · intro h
      have : B = (0 - A) + (A + B) := by omega
      rw [this, Int.add_emod, h, Int.add_zero, Int.emod_emod_of_dvd _ (Int.dvd_refl _)]
    · intro h
      rw [Int.add_emod, h, ← Int.add_emod, show A + (0 - A) = 0 by omega, Int.zero_emod]
  constructor
  · rintro ⟨x, hx⟩
    have hco : ∀ k, (Ser.of p fun k => if k = 0 then 1 else if k ≤ n then x (k - 1) else 0).co k = (if k = 0 then 1 else if k ≤ n then x (k - 1) else 0) % p := fun k => rfl
    have hl : (Ser.of p fun k => if k = 0 then 1 else if k ≤ n then x (k - 1) else 0).low (n + 1) := fun k hk => by rw [hco, if_neg (by omega), if_neg (by omega), Int.zero_emod]
    have h1 : (Ser.of p fun k => if k = 0 then 1 else if k ≤ n then x (k - 1) else 0).co 0 = 1 := by rw [hco, if_pos rfl]; exact mod_small (by omega) (by omega)
    refine ⟨_, hl, h1, fun j h2 h3 => ?_⟩
    obtain ⟨i, rfl⟩ : ∃ i, j = n + i := ⟨j - n, by omega⟩
    rw [key _ x i hl h1 (fun k hk => by rw [hco, if_neg (by omega), if_pos (by omega), Int.emod_emod_of_dvd _ (Int.dvd_refl _), Nat.add_sub_cancel]), eqv]
    have := hx i (by omega)
    unfold Sol at this
    rw [rowF_at] at this
    exact this
  · rintro ⟨c, hc⟩
    refine ⟨fun k => c.co (k + 1), fun i hi => ?_⟩
    have h2 := hc.obe (n + i) (by omega) (by omega)
    rw [key c (fun k => c.co (k + 1)) i hc.low hc.one (fun k _ => rfl), eqv] at h2
    unfold Sol
    rw [rowF_at]
    exact h2

set_option maxRecDepth 100000 in
set_option maxHeartbeats 1000000 in
theorem r4Can_all (p : Int) (v : Value) (s : List Int) (w : World) (hv : Ints .u64 w v s) (hl : s.length ≤ 1000) :
    Calls Try.prog 36 #[.int .u64 p, v, .int .i64 s.length] w (Ret (.bool true) w) := by
  obtain ⟨a, cap, rfl, h1, h2, h3⟩ := hv
  obtain ⟨n, hn⟩ : ∃ n, s.length = n := ⟨_, rfl⟩
  rw [hn] at h1 hl ⊢
  clear h3 hn
  go_enter Try.func36, Try.ntmps36
  go_wp2_with fail
  go_loop [8, 7] (fun i rv => i = .int .i64 n ∧ rv = .slice none 0 0) (fun _ _ => 0)
  case atStart => exact ⟨rfl, rfl⟩
  case round =>
    obtain ⟨rfl, rfl⟩ := hrel
    go_wp2_with fail
    go_loop [12, 11] (fun kv av => ∃ c : Nat, kv = .int .i64 c ∧ c ≤ n ∧ av = .int .i64 0) (fun kv _ => n - (intOf kv).toNat)
    case atStart => exact ⟨0, rfl, Nat.zero_le _, rfl⟩
    case round =>
      obtain ⟨c, rfl, hc, rfl⟩ := hrel
      by_cases hlc : c < n
      · go_wp2_with fail
        go_loop [14, 13] (fun iv fv => iv = .int .i64 0 ∧ fv = .int .i64 (-1)) (fun _ _ => 0)
        case atStart => exact ⟨rfl, rfl⟩
        case round =>
          obtain ⟨rfl, rfl⟩ := hrel
          go_wp2_with fail
          go_round
          case rel => exact ⟨c + 1, by go_num, by omega, rfl⟩
          case measure => simp [intOf]; omega
      · go_wp2_with fail
        go_loop [20] (fun iv => iv = .int .i64 0) (fun _ => 0)
        case atStart => rfl
        case round =>
          obtain rfl := hrel
          go_wp2_with fail
          go_ret
          exact ⟨rfl, Ext.refl _⟩

set_option maxHeartbeats 1000000 in
theorem rLeast (p : Int) (v : Value) (s : List Int) (w : World) (hp : rightB p = true) (hF : Fld p) (hv : Ints .u64 w v s) (hs : Rng p s) (hl : s.length ≤ 1000) :
    Calls Try.prog 21 #[.int .u64 p, v] w fun e w' => ∃ l : Nat, e = .returned (.int .i64 l) ∧ Ext w w' ∧ LeastOb (pol p s) l s.length := by
  have hp2 := rightB_true hp
  have hC := fun (W : World) (hW : Ext w W) (n : Nat) (hn : n ≤ s.length) => show Calls Try.prog 36 #[.int .u64 p, v, .int .i64 n] W (RetIff (∃ c, Ob (pol p s) c n s.length) W) from by
    rcases Nat.lt_or_ge n s.length with h | h
    · exact (r4Can p v s n W hp hF (hv.ext hW) hs h hl).mono fun e w' ⟨b, h1, h2, h3⟩ => ⟨b, h1, h2, h3.trans (sol_ob hp2.1 n)⟩
    · obtain rfl : n = s.length := by omega
      exact (r4Can_all p v s W (hv.ext hW) hl).mono fun e w' ⟨h1, h2⟩ => ⟨true, h1, h2, fun _ => ⟨1, fun k hk => by rw [← Ser.C_one, Ser.C_co, if_neg (by omega)], by rw [← Ser.C_one, Ser.C_co, if_pos rfl]; exact mod_small (by omega) (by omega), fun i h1 h2 => by omega⟩, fun _ => rfl⟩
  have HC := hid hC
  clear hC hp hF hv hs
  go_enter Try.func21, Try.ntmps21
  go_wp2_with fail
  go_loopw [5] (fun i wr => ∃ k : Nat, i = .int .i64 k ∧ k ≤ s.length ∧ Hid (∀ j, j < k → ¬ ∃ c, Ob (pol p s) c j s.length) ∧ Ext w wr) (fun i _ => s.length - (intOf i).toNat)
  case atStart => exact ⟨0, rfl, Nat.zero_le _, hid (fun j h => absurd h (Nat.not_lt_zero _)), Ext.refl _⟩
  case round =>
    obtain ⟨k, rfl, hk, hno, hx⟩ := hrel
    go_wp2_with fail
    refine (HC.out wr hx k hk).mono ?_
    rintro _ w2 ⟨b, rfl, x2, hb⟩
    cases b with
    | true =>
      have hyes := hid (hb.1 rfl)
      clear hb
      go_wp2_with fail
      go_ret
      refine ⟨k, rfl, hx.trans x2, hyes.out, fun c' l' h' => ?_⟩
      apply Classical.byContradiction
      intro hlt
      exact hno.out l' (by omega) ⟨c', h'⟩
    | false =>
      have hn1 : ¬ ∃ c, Ob (pol p s) c k s.length := fun h => by have := hb.2 h; cases this
      have hks : k < s.length := by
        rcases Nat.lt_or_ge k s.length with h | h
        · exact h
        · exact absurd ⟨1, fun k hk => by rw [← Ser.C_one, Ser.C_co, if_neg (by omega)], by rw [← Ser.C_one, Ser.C_co, if_pos rfl]; exact mod_small (by omega) (by omega), fun i h1 h2 => by omega⟩ hn1
      have Hn1 := hid hn1
      clear hb hn1
      go_wp2_with fail
      go_roundw
      case rel => exact ⟨k + 1, by go_num, by omega, hid (fun j hj => by
        by_cases e : j = k
        · rw [e]; exact Hn1.out
        · exact hno.out j (by omega)), hx.trans x2⟩
      case measure => simp [intOf]; omega
end Go.Proofs.Ytbpbagejblbacaa
