/- Package matrix: One; the least and the greatest of a list; whether rows and columns may be picked. -/
import Derived.Test.YtalkbmnbggclpaaMx3
namespace Go.Proofs.Ytalkbmnbggclpaa
open Go.RowKit Go.Maps

set_option maxHeartbeats 400000 in
theorem mxOne_no (n : Int) (w : World) (h : sideB n = false) : Calls Try.prog 27 #[.int .i64 n] w (Ret noMat w) := by
  have HR := Blk.new w 25 #[.int .i64 0, .int .i64 0, .slice none 0 0]
  have HE : Ext w (w.alloc (.cells #[.int .i64 0, .int .i64 0, .slice none 0 0] 25)) := (Ext.refl w).alloc _
  have F := hid (And.intro HR HE)
  obtain ⟨b0, b1, b2⟩ := HR.at3
  have f0 := HR.frozen 0
  have f1 := HR.frozen 1
  have f2 := HR.frozen 2
  clear HR HE
  unfold noMat
  go_enter Try.func27, Try.ntmps27
  go_wp2_with (go_at_call 44; refine (mxSide _ _).mono ?_; rintro _ _ ⟨rfl, rfl⟩)
  refine bodyPost_ret (results_cell_row_tmp rfl _ _ w.heap.size 25 _ (0, 0) _ rfl F.out.1 Try.underlying25 rfl (by kernel_rfl)) rfl ?_
  exact ⟨rfl, F.out.2⟩

set_option maxRecDepth 100000 in
set_option maxHeartbeats 1000000 in
theorem mxOne_yes (n : Nat) (w : World) (hn : 1 ≤ n ∧ n ≤ 64) : Calls Try.prog 27 #[.int .i64 n] w (RetN n n (oneL n) w) := by
  have hs : sideB n = true := decide_eq_true (by omega)
  obtain ⟨Q, hQ⟩ : ∃ Q, n * n = Q := ⟨_, rfl⟩
  have hQb : Q ≤ 4096 := by rw [← hQ]; exact Nat.mul_le_mul hn.2 hn.2
  have HN := hid fun W : World => mxNoughts n n W hn.2 hn.2
  rw [hQ] at HN
  have HQ := hid hQ
  clear hQ
  have HR := hid (Blk.new w 25 #[.int .i64 0, .int .i64 0, .slice none 0 0])
  have hx0 : Ext w (w.alloc (.cells #[.int .i64 0, .int .i64 0, .slice none 0 0] 25)) := (Ext.refl w).alloc _
  have hR1 := HR.out.lt
  go_enter Try.func27, Try.ntmps27
  go_wp2_with (first | (go_at_call 44; refine (mxSide _ _).mono ?_; rintro _ _ ⟨rfl, rfl⟩) | fail)
  refine (HN.out _).mono ?_
  rintro _ w2 ⟨g, rfl, hg, hrow, x2⟩
  have HU := hid (Und.start (Q := Q) (r := (n : Int)) (c := (n : Int)) hg hrow List.length_replicate x2)
  unfold matV
  go_wp2_with fail
  obtain ⟨h, hh⟩ : ∃ h, w2.heap.size = h := ⟨_, rfl⟩
  obtain ⟨w3, hw3⟩ : ∃ w3, w2.alloc (.cells #[.int .i64 (n : Int), .int .i64 (n : Int), .slice (some ⟨g, 0, none⟩) Q Q] 25) = w3 := ⟨_, rfl⟩
  obtain ⟨w1, hw1⟩ : ∃ w1, w.alloc (.cells #[.int .i64 0, .int .i64 0, .slice none 0 0] 25) = w1 := ⟨_, rfl⟩
  rw [hw3, hh, hw1] at HU
  rw [hw1] at HR hx0 hR1
  rw [hw3, hh]
  obtain ⟨gR, hgR⟩ : ∃ gR, w.heap.size = gR := ⟨_, rfl⟩
  have hgw : w.heap.size ≤ gR := by omega
  rw [hgR] at HR hR1
  rw [hgR]
  clear hh hw3 hw1 hrow x2 hg hgR
  have HE := hid hx0
  go_loopw [14] (fun iv wr => ∃ (i : Nat) (l : List Int), iv = .int .i64 i ∧ i ≤ n ∧ Hid (Und w1 wr h g Q n n l) ∧ Hid (∀ a b, b < n → l.getD (a * n + b) 0 = if a = b ∧ a < i then 1 else 0)) (fun iv _ => n - (intOf iv).toNat)
  case atStart => exact ⟨0, _, rfl, Nat.zero_le _, HU, hid fun a b _ => by rw [replicate_get, if_neg (by omega)]⟩
  case round =>
    clear HU
    obtain ⟨i, l, rfl, hi, HU, hl⟩ := hrel
    obtain ⟨o0, o1, o2⟩ := HU.out.box.at3
    by_cases hlt : i < n
    · have hoQ : i * n + n ≤ Q := by rw [← HQ.out, ← Nat.succ_mul]; exact Nat.mul_le_mul_right _ hlt
      go_wp2_with fail
      refine (mxRow (n : Int) (n : Int) n i g 0 Q Q wr rfl hn (by omega) hoQ (by omega)).mono ?_
      rintro _ w5 ⟨rfl, x5⟩
      rw [Nat.zero_add]
      obtain ⟨o, ho⟩ : ∃ o, i * n = o := ⟨_, rfl⟩
      obtain ⟨cp, hcp⟩ : ∃ cp, Q - o = cp := ⟨_, rfl⟩
      rw [ho] at hoQ
      rw [ho, hcp]
      have hcpn : n ≤ cp := by omega
      have hcpb : cp ≤ 9223372036854775807 := by omega
      obtain ⟨t, ht⟩ : ∃ t, o + i = t := ⟨_, rfl⟩
      have htQ : t < Q := by omega
      have Ht := hid (show i * n + i = t by omega)
      clear ho hcp o0 o1 o2
      obtain ⟨gt, ft⟩ := (HU.out.ext' x5).at_ htQ
      go_wp2_with fail
      go_roundw
      case rel =>
        refine ⟨i + 1, l.set t 1, by go_num, by omega, hid ((HU.out.ext' x5).put htQ 1), hid fun a b hb => ?_⟩
        rw [← Ht.out, put_at 1 hlt hb (by rw [Ht.out, HU.out.len]; exact htQ), hl.out a b hb]
        by_cases e : a = i ∧ b = i
        · rw [if_pos e, if_pos (by omega)]
        · rw [if_neg e]
          by_cases e2 : a = b ∧ a < i
          · rw [if_pos e2, if_pos (by omega)]
          · rw [if_neg e2, if_neg (by omega)]
      case measure => simp [intOf]; omega
    · obtain rfl : n = i := by omega
      have hRr := HR.out.ext HU.out.ext
      obtain ⟨r0, r1, r2⟩ := hRr.at3
      have f0 := hRr.frozen 0
      have f1 := hRr.frozen 1
      have f2 := hRr.frozen 2
      have FF := hid (HU.out.fin hRr hR1 (HE.out.trans HU.out.ext) hgw (by omega))
      clear hRr
      go_wp2_with fail
      refine bodyPost_ret (results_cell_row_tmp rfl _ _ gR 25 _ (0, 0) _ rfl FF.out.1 Try.underlying25 rfl (by kernel_rfl)) rfl ?_
      have e : l = oneL n := grid_of (by rw [HU.out.len, HQ.out]) fun a b ha hb => by
        rw [hl.out a b hb]
        by_cases e : a = b
        · rw [if_pos e, if_pos ⟨e, ha⟩]
        · rw [if_neg e, if_neg (fun h => e h.1)]
      exact ⟨_, rfl, e ▸ FF.out.2.1, FF.out.2.2⟩

/-- may these be picked? -/
def picksB (many : Int) (l : List Int) : Bool := decide (1 ≤ l.length ∧ l.length ≤ 64) && l.all fun x => decide (0 ≤ x ∧ x < many)
end Go.Proofs.Ytalkbmnbggclpaa
