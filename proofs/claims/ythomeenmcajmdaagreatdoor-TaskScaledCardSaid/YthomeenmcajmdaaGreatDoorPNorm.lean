import Derived.Test.YthomeenmcajmdaaGreatDoorBun17
import Derived.Test.YthomeenmcajmdaaGreatDoorBun05
import Derived.Test.YthomeenmcajmdaaGreatDoorBun03
namespace Go.Proofs.YthomeenmcajmdaaGreatDoor
open Go.RowKit
set_option maxHeartbeats 1000000 in
theorem pNorm_yes (p : Int) (v : Value) (xs : List Int) (w : World) (hp : rightB p = true) (hv : Ints .u64 w v xs) (hx : U64s xs) (hl : xs.length ≤ 512) :
    Calls Tryz.prog 143 #[.int .u64 p, v] w (RetT p (pol p xs) w) := by
  have hp2 := rightB_true hp
  have c1 := right_any p w (by omega) (by omega)
  rw [hp] at c1
  have C1 := hid c1
  obtain ⟨a, cap, rfl, k1, k2, k3⟩ := hv
  have K3 := hid k3; have Hx := hid hx; have Hp := hid hp
  clear k3 c1 hp hx
  obtain ⟨n, hn⟩ : ∃ n, xs.length = n := ⟨_, rfl⟩
  have Hn := hid hn
  rw [hn] at k1 K3 hl ⊢
  clear hn
  have hmk := make_ints (P := Tryz.prog) 24 22 .u64 8 (by omega) (by kernel_rfl) (by kernel_rfl) n n (Nat.le_refl _) (by omega)
  have hrow := hid (WRow.made (w := w) (t := 22) (n := n) rfl)
  have hrl := hid (List.length_replicate (n := n) (a := (0 : Int)))
  obtain ⟨f, hf⟩ : ∃ f, pol p xs = f := ⟨_, rfl⟩
  rw [hf]
  have Hf := hid hf
  clear hf
  go_enter Tryz.func143, Tryz.ntmps143
  go_wp2_with (go_at_call 37; refine C1.out.mono ?_; rintro _ _ ⟨rfl, rfl⟩)
  obtain ⟨g, hg⟩ : ∃ g, w.heap.size = g := ⟨_, rfl⟩
  have hgw : w.heap.size ≤ g := by omega
  obtain ⟨w0, hw0⟩ : ∃ w0, w.alloc (.cells (madeCells #[Value.int .u64 0] n) 22) = w0 := ⟨_, rfl⟩
  have hx0 : Ext w w0 := hw0 ▸ (Ext.refl w).alloc _
  rw [hg, hw0] at hrow
  rw [hg, hw0]
  clear hg hw0 hmk
  go_loopw [20] (fun i wr => ∃ (k : Nat) (l : List Int), i = .int .i64 k ∧ k ≤ n ∧ Hid (l.length = n) ∧ Hid (∀ j, l.getD j 0 = if j < k then xs.getD j 0 % p else 0) ∧ WRow wr g 0 l ∧ Ext w wr) (fun i _ => n - (intOf i).toNat)
  case atStart => exact ⟨0, _, rfl, Nat.zero_le _, hrl, hid (fun j => by rw [replicate_get]; simp), hrow.out, hx0⟩
  case round =>
    obtain ⟨k, l, rfl, hk, hln, hl2, hrw, hxw⟩ := hrel
    clear hx0
    have Hrw := hid hrw
    clear hrw
    by_cases hlt : k < n
    · obtain ⟨b, off, rfl, hb, hcell⟩ := K3.out (by omega)
      have g1 := (hxw.cells _ _ hb).trans (hcell k hlt)
      have r1 := Hx.out.get (k := k) (by rw [Hn.out]; exact hlt)
      obtain ⟨y, ey⟩ : ∃ y, xs.getD k 0 = y := ⟨_, rfl⟩
      rw [ey] at g1 r1
      obtain ⟨r, er, r3, r4⟩ := name_mod (p := p) y hp2.1
      have Er := hid er; have Ey := hid ey
      clear er ey hcell
      go_wp2_with fail
      refine (norm_as p y r _ Hp.out r1.1 Er.out).mono ?_
      rintro _ w3 ⟨rfl, x3⟩
      have g2 := ((Hrw.out.ext x3).2 k (by rw [hln.out]; omega)).1
      have f2 := ((Hrw.out.ext x3).2 k (by rw [hln.out]; omega)).2
      rw [Nat.zero_add] at g2 f2
      go_wp2_with fail
      go_roundw
      case rel =>
        have hs := (Hrw.out.ext x3).set_ (i := k) (by rw [hln.out]; omega) r
        rw [Nat.zero_add] at hs
        refine ⟨k + 1, l.set k r, by go_num, by omega, hid (by rw [List.length_set]; exact hln.out), hid (fun j => ?_), hs, (hxw.trans x3).setCell (p := ⟨g, k, none⟩) hgw _⟩
        rw [set_get l k j r (by rw [hln.out]; omega), hl2.out]
        by_cases e : k = j
        · subst e
          rw [if_pos rfl, if_pos (by omega), Ey.out, Er.out]
        · rw [if_neg e]
          by_cases e2 : j < k
          · rw [if_pos e2, if_pos (by omega)]
          · rw [if_neg e2, if_neg (by omega)]
      case measure => simp [intOf]; omega
    · obtain rfl : n = k := by omega
      have hi := Hrw.out.ints' hln.out (Nat.le_refl n) (by omega)
      have ht := trimmed_any (some ⟨g, 0, none⟩) n l wr (by rw [hln.out]; exact hi)
      rw [hln.out] at ht
      have Ht := hid ht
      have Hi := hid hi
      clear ht hi
      go_wp2_with (go_at_call 161; refine Ht.out.mono ?_; rintro _ _ ⟨rfl, rfl⟩)
      go_ret2
      have hrng : Rng p l := Rng.of_get fun j hj => by
        rw [hl2.out]
        split
        · exact mod_range _ hp2.1
        · omega
      have htl : trimN l n = trimN l l.length := by rw [hln.out]
      refine ⟨_, trimL l, rfl, ?_, (trimL_pol hrng).1, (trimL_pol hrng).2.trans (Ser.ext_ fun j => ?_), hxw⟩
      · rw [htl]
        exact (Hi.out.take' _ (by rw [← htl, hln.out]; exact trimN_le _ _))
      · rw [← Hf.out, pol_co, pol_co, hl2.out]
        split
        · exact Int.emod_emod_of_dvd _ (Int.dvd_refl _)
        · rw [getD_over (xs := xs) (by rw [Hn.out]; omega)]
end Go.Proofs.YthomeenmcajmdaaGreatDoor
