/- The document's own answer to: is there a rule of a length? (affidavitref04.Can: equations taken to steps) -/
import Derived.Test.YtbpbagejblbacaaRef04
import Derived.Test.YtbpbagejblbacaaGauss
import Derived.Test.YtbpbagejblbacaaRows1
import Derived.StillTailTactics
namespace Go.Proofs.Ytbpbagejblbacaa
open Go.RowKit Go.ChangeShapes Go.WideShapes Go.ChangeAt

theorem info_rows : (Try.prog.info? 23).map (fun i => (i.zero, i.size, i.bytes)) = some (some (.slice none 0 0), 1, 24) := by kernel_rfl
/-- an equation as it is laid: the numbers ahead, and what is asked for -/
def rowL (p : Int) (s : List Int) (n i : Nat) : List Int := (List.range n).map (fun k => s.getD (n + i - 1 - k) 0) ++ [(0 - s.getD (n + i) 0) % p]
theorem rowL_len (p : Int) (s : List Int) (n i : Nat) : (rowL p s n i).length = n + 1 := by simp [rowL]
def rowF (p : Int) (s : List Int) (n i k : Nat) : Int := (rowL p s n i).getD k 0
theorem rowF_lt (p : Int) (s : List Int) {n i k : Nat} (h : k < n) : rowF p s n i k = s.getD (n + i - 1 - k) 0 := by
  simp [rowF, rowL, List.getD, List.getElem?_append, h]
theorem rowF_at (p : Int) (s : List Int) (n i : Nat) : rowF p s n i n = (0 - s.getD (n + i) 0) % p := by
  simp [rowF, rowL, List.getD]

theorem gone {p x i y : Int} (hi : y * i % p = 1) : (x - x * i % p * y) % p = 0 := by
  rw [← ms_r, mm_l, ms_r, show x - x * i * y = x - x * (y * i) by grind, ← ms_r, ← mm_r, hi, Int.mul_one, ms_r, Int.sub_self, Int.zero_emod]
/-- answers whether P -/
def RetIff (P : Prop) (w : World) (e : Ending) (w' : World) : Prop := ∃ b : Bool, e = .returned (.bool b) ∧ Ext w w' ∧ (b = true ↔ P)

set_option maxRecDepth 100000 in
set_option maxHeartbeats 4000000 in
theorem r4Can (p : Int) (v : Value) (s : List Int) (n : Nat) (w : World) (hp : rightB p = true) (hF : Fld p) (hv : Ints .u64 w v s) (hs : Rng p s) (hn : n < s.length) (hl : s.length ≤ 1000) :
    Calls Try.prog 36 #[.int .u64 p, v, .int .i64 n] w (RetIff (∃ x, ∀ i, i < s.length - n → Sol p n (rowF p s n i) x) w) := by
  have hp2 := rightB_true hp
  obtain ⟨i0, hi, hz0, hz1, hz2⟩ := info_parts info_u64p
  obtain ⟨i1, hj, hj0, hj1, hj2⟩ := info_parts info_rows
  have Hp := hid hp; have HF := hid hF; have Hs := hid hs
  obtain ⟨a, cap, rfl, h1, h2, h3⟩ := hv
  obtain ⟨b, off, rfl, hb, hcell⟩ := h3 (by omega)
  have H3 := hid hcell
  clear hp hF hs h3 hcell
  go_enter Try.func36, Try.ntmps36
  go_wp2_with fail
  go_loopw [8, 7] (fun i rv wr => ∃ (e k : Nat) (gs cs : Nat → Nat), i = .int .i64 e ∧ Hid (e = n + k) ∧ n ≤ e ∧ e ≤ s.length ∧ Rows1 w wr rv k (n + 1) gs cs (rowL p s n)) (fun i _ _ => s.length - (intOf i).toNat)
  case atStart => exact ⟨n, 0, fun _ => 0, fun _ => 0, rfl, hid rfl, by omega, by omega, Rows1.start _ _ _ _ _⟩
  case round =>
    obtain ⟨e, k, gs, cs, rfl, He, hk0, hk, hR⟩ := hrel
    have HR := hid hR
    clear hR
    by_cases hlt : e < s.length
    · rename World => wo
      go_wp2_with fail
      go_loopw [10, 9] (fun i rv wi => ∃ j : Nat, i = .int .i64 ((j + 1 : Nat) : Int) ∧ j ≤ n ∧ wi.ownsRow wo.heap.size 22 1 rv j (((List.range j).map fun t => s.getD (e - 1 - t) 0).map (Value.int .u64)) ∧ Ext wo wi) (fun i _ _ => n + 1 - (intOf i).toNat)
      case atStart => exact ⟨0, rfl, Nat.zero_le _, World.ownsRow_nil _ _ _ _, Ext.refl _⟩
      case round =>
        obtain ⟨j, rfl, hj', hown, hwi⟩ := hrel
        have hsz := hwi.size
        have hsw := HR.out.ext.size
        by_cases hlj : j < n
        · have g := ((HR.out.ext.trans hwi).cells _ _ hb).trans (H3.out (e - 1 - j) (by omega))
          have e1 : (e : Int) - ((j : Int) + 1) = ((e - 1 - j : Nat) : Int) := by omega
          have hlm := hid (show (List.range (j + 1)).map (fun t => s.getD (e - 1 - t) 0) = (List.range j).map (fun t => s.getD (e - 1 - t) 0) ++ [s.getD (e - 1 - j) 0] by rw [List.range_succ]; simp)
          have i1' : e - 1 - j < s.length := by omega
          obtain ⟨m, hm⟩ : ∃ m, e - 1 - j = m := ⟨_, rfl⟩
          rw [hm] at g e1 hlm i1'
          generalize s.getD m 0 = y at *
          have Hown := hid hown
          clear hm hown
          go_wp2_with (first | (at_builtin; refine wpList_append_own _ rfl _ _ 23 rfl wo.heap.size 22 i0 (.int .u64 0) 1 8 Try.underlying23 hi hz0 hz1 hz2 rfl (by decide) _ _ _ rfl (Hown.out.alloc _) ⟨wr.heap.size, 0, none⟩ 1 1 [.int .u64 y] rfl rfl (cells_new _ _ _ (by simp)) (by simp [Value.oneCell']) (by simp only [maxLen]; omega) (by omega) (by simp; omega) ?_; intro v' w4 hown4 hgrow4 hnil4) | fail)
          go_roundw
          case rel =>
            exact ⟨j + 1, by go_num, by omega, by rw [hlm.out, List.map_append]; exact hown4, (hwi.alloc _).grown hgrow4 (fun t e => (Hown.out.lt t e).1)⟩
          case measure => simp [intOf]; omega
        · obtain rfl : j = n := by omega
          have Hown := hid hown
          have g := ((HR.out.ext.trans hwi).cells _ _ hb).trans (H3.out e hlt)
          have ry := Hs.out.get hlt
          have hrl := hid (show (((List.range j).map fun t => s.getD (e - 1 - t) 0).map (Value.int .u64)) ++ [.int .u64 ((0 - s.getD e 0) % p)] = (rowL p s j k).map (Value.int .u64) by rw [He.out]; simp [rowL])
          obtain ⟨y, ey⟩ : ∃ y, s.getD e 0 = y := ⟨_, rfl⟩
          rw [ey] at g ry hrl
          obtain ⟨z, ez, z0, z1⟩ := name_mod (p := p) (0 - y) hp2.1
          rw [ez] at hrl
          have Ez := hid ez
          clear ey ez hown
          go_wp2_with (first
            | (go_at_call 51; refine (rSub p 0 y z _ Hp.out (by omega) (by omega) ry.1 ry.2 Ez.out).mono ?_; rintro _ _ ⟨rfl, rfl⟩)
            | (at_builtin; refine wpList_append_own _ rfl _ _ 23 rfl wo.heap.size 22 i0 (.int .u64 0) 1 8 Try.underlying23 hi hz0 hz1 hz2 rfl (by decide) _ _ _ rfl (Hown.out.alloc _) ⟨wr.heap.size, 0, none⟩ 1 1 [.int .u64 z] rfl rfl (cells_new _ _ _ (by simp)) (by simp [Value.oneCell']) (by simp only [maxLen]; omega) (by omega) (by simp; omega) ?_; intro v' w4 hown4 hgrow4 hnil4; rw [hrl.out] at hown4; obtain ⟨g1, c1, rfl, c2, c3, c4, c5⟩ := WRow.of_owns hown4; obtain ⟨gb, rfl, hgb, hgw⟩ := c5 (by omega); have hy4 : Ext wo w4 := (hwi.alloc _).grown hgrow4 (fun t e => (Hown.out.lt t e).1); have HR4 := hid (HR.out.ext' hy4); have hs4 := hy4.size; have hkl : k ≤ 1000 := (by have := He.out; omega); clear c5 hown4)
            | (at_builtin; refine wpList_append_own _ rfl _ _ 55 rfl w.heap.size 23 i1 (.slice none 0 0) 1 24 Try.underlying55 hj hj0 hj1 hj2 rfl (by decide) _ _ _ rfl (HR4.out.own.alloc _) ⟨w4.heap.size, 0, none⟩ 1 1 [.slice (some ⟨gb, 0, none⟩) (j + 1) c1] rfl rfl (cells_new _ _ _ (by simp)) (by simp [Value.oneCell']) (by simp only [maxLen]; omega) (by omega) (by simp; omega) ?_; intro v5 w5 hown5 hgrow5 hnil5)
            | fail)
          have hnx := HR.out.next (by omega) (hy4.alloc (.cells #[.slice (some ⟨gb, 0, none⟩) (j + 1) c1] 23)) (hgw.ext ((Ext.refl _).alloc _)) hgb ⟨rowL_len p s j k, c2, c3⟩ hown5 hgrow5
          go_roundw
          case rel =>
            have e9 : (fun i => if i = k then rowL p s j k else rowL p s j i) = rowL p s j := by
              funext i; split
              · next h => rw [h]
              · rfl
            rw [e9] at hnx
            exact ⟨e + 1, k + 1, _, _, by go_num, hid (by rw [He.out]; omega), by omega, by omega, hnx⟩
          case measure => simp [intOf]; omega
    · obtain rfl : e = s.length := by omega
      obtain ⟨m, hm⟩ : ∃ m, s.length - n = m := ⟨_, rfl⟩
      obtain rfl : k = m := by have := He.out; omega
      obtain ⟨G, gc, rfl, g1, g2, hG, hgr⟩ := HR.out.grid (by omega) (by omega)
      have hgb : Hid (∀ i, i < k → w.heap.size ≤ gs i) := hid (fun i hi => (HR.out.row i hi).2)
      have hx0 := HR.out.ext
      have hgs : Hid (Gs p n k (rowF p s n) (fun i j => (rowL p s n i).getD j 0) 0 0) := hid (Gs.start fun i hi j hj => by
        rcases Nat.lt_or_ge j n with h | h
        · show 0 ≤ rowF p s n i j ∧ rowF p s n i j < p
          rw [rowF_lt p s h]; exact Hs.out.getD hp2.1 _
        · obtain rfl : j = n := by omega
          show 0 ≤ rowF p s j i j ∧ rowF p s j i j < p
          rw [rowF_at]; exact mod_range _ hp2.1)
      have Hgr := hid hgr
      have Hm := hid hm
      have hk1 : k ≤ 1000 := by omega
      clear hgr hm HR He
      go_wp2_with fail
      go_loopw [12, 11] (fun kv av wr => ∃ (c at_ : Nat) (gs cs : Nat → Nat) (R : Nat → List Int), kv = .int .i64 c ∧ av = .int .i64 at_ ∧ c ≤ n ∧ at_ ≤ k ∧ Hid (Grid wr G k (n + 1) gs cs R) ∧ Hid (∀ i, i < k → w.heap.size ≤ gs i) ∧ Hid (Gs p n k (rowF p s n) (fun i j => (R i).getD j 0) at_ c) ∧ Ext w wr) (fun kv _ _ => n - (intOf kv).toNat)
      case atStart => exact ⟨0, 0, gs, cs, rowL p s n, rfl, rfl, by omega, by omega, Hgr, hgb, hgs, hx0⟩
      case round =>
        obtain ⟨c, at_, gs, cs, R, rfl, rfl, hc, hat, HG, Hb, HS, hxw⟩ := hrel
        clear hgb hgs Hgr
        by_cases hlc : c < n
        · rename World => wo
          go_wp2_with fail
          go_loop [14, 13] (fun iv fv => ∃ (i : Nat) (f : Int), iv = .int .i64 i ∧ fv = .int .i64 f ∧ at_ ≤ i ∧ i ≤ k ∧ -1 ≤ f ∧ f < k ∧ Hid ((f = -1 → ∀ o, at_ ≤ o → o < i → (R o).getD c 0 = 0) ∧ (0 ≤ f → at_ ≤ f.toNat ∧ (R f.toNat).getD c 0 ≠ 0))) (fun iv _ => k - (intOf iv).toNat)
          case atStart => exact ⟨at_, -1, rfl, rfl, by omega, by omega, by omega, by omega, hid ⟨fun _ o h1 h2 => by omega, fun h => by omega⟩⟩
          case round =>
            obtain ⟨i, f, rfl, rfl, hi1, hi2, hf1, hf2, hF⟩ := hrel
            by_cases hli : i < k
            · have ch := (HG.out.hdr i hli).1
              have hlen := HG.out.len i hli
              have cc := ((HG.out.row i hli).2 c (by omega)).1
              have hr := HS.out.rng i hli c (by omega)
              rw [Nat.zero_add] at cc
              obtain ⟨y, ey⟩ : ∃ y, (R i).getD c 0 = y := ⟨_, rfl⟩
              rw [ey] at cc
              simp only [ey] at hr
              have Ey := hid ey
              obtain ⟨l1, l2, l3⟩ := hlen
              clear ey l1
              by_cases hy : y = 0
              · have b1 : (y != 0) = false := by simp [hy]
                have Hy := hid hy
                clear hy
                go_wp2_with fail
                go_round
                case rel => exact ⟨i + 1, f, by go_num, rfl, by omega, by omega, hf1, hf2, hid ⟨fun e o h1 h2 => by
                  by_cases e2 : o = i
                  · rw [e2, Ey.out, Hy.out]
                  · exact hF.out.1 e o h1 (by omega), hF.out.2⟩⟩
                case measure => simp [intOf]; omega
              · have b1 : (y != 0) = true := by simp [hy]
                have Hy := hid hy
                clear hy
                by_cases hf : f < 0
                · go_wp2_with fail
                  go_round
                  case rel => exact ⟨i + 1, i, by go_num, rfl, by omega, by omega, by omega, by omega, hid ⟨fun e => by omega, fun _ => ⟨by omega, by rw [show ((i : Int)).toNat = i by omega, Ey.out]; exact Hy.out⟩⟩⟩
                  case measure => simp [intOf]; omega
                · go_wp2_with fail
                  go_round
                  case rel => exact ⟨i + 1, f, by go_num, rfl, by omega, by omega, hf1, hf2, hid ⟨fun e => by omega, hF.out.2⟩⟩
                  case measure => simp [intOf]; omega
            · obtain rfl : i = k := by omega
              by_cases hf : f < 0
              · have hsk := hid (HS.out.skip hlc fun o h1 h2 => hF.out.1 (by omega) o h1 h2)
                clear hF
                go_wp2_with fail
                go_roundw
                case rel => exact ⟨c + 1, at_, gs, cs, R, by go_num, rfl, by omega, hat, HG, Hb, hsk, hxw⟩
                case measure => simp [intOf]; omega
              · obtain ⟨g, rfl⟩ : ∃ g : Nat, f = (g : Int) := ⟨f.toNat, by omega⟩
                obtain ⟨hg1, hg2⟩ := hF.out.2 (by omega)
                rw [show ((g : Int)).toNat = g by omega] at hg1 hg2
                have hgk : g < i := by omega
                have hak : at_ < i := by omega
                obtain ⟨ch1, cf1⟩ := HG.out.hdr at_ hak
                obtain ⟨ch2, cf2⟩ := HG.out.hdr g hgk
                obtain ⟨cu, ch3⟩ : ∃ u, (wo.setCell ⟨G, at_, none⟩ (.slice (some ⟨gs g, 0, none⟩) (n + 1) (cs g))).cell? ⟨G, g, none⟩ = some u := by
                  by_cases e : at_ = g
                  · rw [← e]; exact ⟨_, World.cell?_setCell_same _ _ _ ch1⟩
                  · exact ⟨_, (World.cell?_setCell_other _ _ _ _ (by intro e'; injection e' with _ e2; exact e e2)).trans ch2⟩
                have hsw := hid (fun q => (HG.out.ext ((Ext.refl wo).drewN q)).swap hak hgk)
                have Hg2 := hid hg2
                clear hg2 hF
                go_wp2_with fail
                go_region
                obtain ⟨W5, hW5⟩ : ∃ W5, ((wo.setCell ⟨G, at_, none⟩ (.slice (some ⟨gs g, 0, none⟩) (n + 1) (cs g))).setCell ⟨G, g, none⟩ (.slice (some ⟨gs at_, 0, none⟩) (n + 1) (cs at_))).drew = W5 := ⟨_, rfl⟩
                obtain ⟨gs2, hgs2⟩ : ∃ x, swapN gs at_ g = x := ⟨_, rfl⟩
                obtain ⟨cs2, hcs2⟩ : ∃ x, swapN cs at_ g = x := ⟨_, rfl⟩
                obtain ⟨R2, hR2⟩ : ∃ x, swapN R at_ g = x := ⟨_, rfl⟩
                have hg5 := ((HG.out.swap hak hgk).ext ((Ext.refl _).drew))
                have hx5 := ((hxw.setCell (p := ⟨G, at_, none⟩) hG (.slice (some ⟨gs g, 0, none⟩) (n + 1) (cs g))).setCell (p := ⟨G, g, none⟩) hG (.slice (some ⟨gs at_, 0, none⟩) (n + 1) (cs at_))).drew
                rw [hW5, hgs2, hcs2, hR2] at hg5
                rw [hW5] at hx5 ⊢
                have hb2 : Hid (∀ o, o < i → w.heap.size ≤ gs2 o) := hid (fun o ho => by
                  rw [← hgs2]; unfold swapN
                  split
                  · exact Hb.out g hgk
                  · split
                    · exact Hb.out at_ hak
                    · exact Hb.out o ho)
                have hs5 : Hid (Gs p n i (rowF p s n) (fun i j => (R2 i).getD j 0) at_ c) := hid (by
                  have := HS.out.swap hg1 hgk
                  have e : swapF (fun i j => (R i).getD j 0) at_ g = fun i j => (R2 i).getD j 0 := by
                    rw [← hR2]; funext o; unfold swapF swapN
                    split
                    · rfl
                    · split <;> rfl
                  rw [e] at this; exact this)
                have hpv : (R2 at_).getD c 0 ≠ 0 := by
                  rw [← hR2]; unfold swapN; rw [if_pos rfl]; exact Hg2.out
                have Hg5 := hid hg5
                clear hW5 hgs2 hcs2 hR2 hg5 hsw ch1 ch2 ch3 cf1 cf2
                have rh := (Hg5.out.hdr at_ hak).1
                have rl := Hg5.out.len at_ hak
                have rc := ((Hg5.out.row at_ hak).2 c (by omega)).1
                have rr := hs5.out.rng at_ hak c (by omega)
                rw [Nat.zero_add] at rc
                obtain ⟨pv, epv⟩ : ∃ y, (R2 at_).getD c 0 = y := ⟨_, rfl⟩
                rw [epv] at rc hpv
                simp only [epv] at rr
                have Epv := hid epv
                obtain ⟨rl1, rl2, rl3⟩ := rl
                have hu := hid (HF.out pv (by omega) rr.2)
                have hiv := hid (unit_inv p pv hp2.1 rr.1 hu.out)
                have hir := minv_range p pv hp2.1
                obtain ⟨iv, eiv⟩ : ∃ y, minv p pv = y := ⟨_, rfl⟩
                have hci := hid (rInv_yes p pv W5 Hp.out rr.1 rr.2 hu.out)
                rw [eiv] at hir hiv hci
                clear epv eiv rl1 hpv
                go_wp2_with (go_at_call 52; refine hci.out.mono ?_; rintro _ w6 ⟨rfl, x6⟩)
                clear rh rc
                go_loopw [17] (fun qv wr => ∃ (q : Nat) (R3 : Nat → List Int), qv = .int .i64 q ∧ at_ < q ∧ q ≤ i ∧ Hid (Grid wr G i (n + 1) gs2 cs2 R3) ∧ Hid (Gs p n i (rowF p s n) (fun i j => (R3 i).getD j 0) at_ c) ∧ Hid ((R3 at_).getD c 0 = pv) ∧ Hid (∀ o, at_ < o → o < q → (R3 o).getD c 0 = 0) ∧ Ext w wr) (fun qv _ => i - (intOf qv).toNat)
                case atStart => exact ⟨at_ + 1, R2, by go_num, by omega, by omega, hid (Hg5.out.ext x6), hs5, Epv, hid (fun o h1 h2 => by omega), hx5.trans x6⟩
                case round =>
                  obtain ⟨q, R3, rfl, hq1, hq2, HG3, HS3, HP3, HZ3, hx3⟩ := hrel
                  clear hx5 x6 hxw
                  by_cases hlq : q < i
                  · rename World => wq
                    have rh := (HG3.out.hdr q hlq).1
                    obtain ⟨rl1, rl2, rl3⟩ := HG3.out.len q hlq
                    have rc := ((HG3.out.row q hlq).2 c (by omega)).1
                    have ry := HS3.out.rng q hlq c (by omega)
                    rw [Nat.zero_add] at rc
                    obtain ⟨y, ey⟩ : ∃ y, (R3 q).getD c 0 = y := ⟨_, rfl⟩
                    rw [ey] at rc
                    simp only [ey] at ry
                    have Ey := hid ey
                    obtain ⟨xq, exq, xq0, xq1⟩ := name_mod (p := p) (y * iv) hp2.1
                    have Exq := hid exq
                    have Rl := hid rl1
                    clear ey exq rl1
                    go_wp2_with (go_at_call 32; refine (rMul p y iv xq _ Hp.out ry.1 ry.2 hir.1 (by omega) Exq.out).mono ?_; rintro _ _ ⟨rfl, rfl⟩)
                    clear rh rc
                    go_loopw [19] (fun jv wr => ∃ (j : Nat) (S : List Int), jv = .int .i64 j ∧ c ≤ j ∧ j ≤ n + 1 ∧ Hid (Grid wr G i (n + 1) gs2 cs2 (fun o => if o = q then S else R3 o)) ∧ Hid (S.length = n + 1) ∧ Hid (∀ t, S.getD t 0 = if c ≤ t ∧ t < j then ((R3 q).getD t 0 - xq * (R3 at_).getD t 0) % p else (R3 q).getD t 0) ∧ Ext w wr) (fun jv _ => n + 1 - (intOf jv).toNat)
                    case atStart =>
                      have e : (fun o => if o = q then R3 q else R3 o) = R3 := by
                        funext o; split
                        · next h => rw [h]
                        · rfl
                      exact ⟨c, R3 q, rfl, Nat.le_refl _, by omega, hid (by rw [e]; exact HG3.out), Rl, hid (fun t => by rw [if_neg (by omega)]), hx3⟩
                    case round =>
                      obtain ⟨j, S, rfl, hj1, hj2, HGS, HSl, HSt, hxs⟩ := hrel
                      clear hx3
                      by_cases hlj : j ≤ n
                      · have rh1 := (HGS.out.hdr q hlq).1
                        have rh2 := (HGS.out.hdr at_ hak).1
                        have w1 : WRow wr (gs2 q) 0 S := by have := HGS.out.row q hlq; simpa using this
                        have w2 : WRow wr (gs2 at_) 0 (R3 at_) := by have := HGS.out.row at_ hak; simpa [show at_ ≠ q by omega] using this
                        have rc1 := (w1.2 j (by rw [HSl.out]; omega)).1
                        have rf1 := (w1.2 j (by rw [HSl.out]; omega)).2
                        have rc2 := (w2.2 j (by rw [(HG3.out.len at_ hak).1]; omega)).1
                        have rr1 := HS3.out.rng q hlq j hlj
                        have rr2 := HS3.out.rng at_ hak j hlj
                        obtain ⟨_, ql2, ql3⟩ := HG3.out.len at_ hak
                        have hbq := hb2.out q hlq
                        rw [Nat.zero_add, HSt.out, if_neg (by omega)] at rc1
                        rw [Nat.zero_add] at rf1 rc2
                        obtain ⟨r0, er0⟩ : ∃ y, (R3 q).getD j 0 = y := ⟨_, rfl⟩
                        obtain ⟨r1, er1⟩ : ∃ y, (R3 at_).getD j 0 = y := ⟨_, rfl⟩
                        rw [er0] at rc1; rw [er1] at rc2
                        simp only [er0] at rr1
                        simp only [er1] at rr2
                        obtain ⟨t1, et1, t10, t11⟩ := name_mod (p := p) (xq * r1) hp2.1
                        obtain ⟨t2, et2, t20, t21⟩ := name_mod (p := p) (r0 - t1) hp2.1
                        have Er0 := hid er0; have Er1 := hid er1; have Et1 := hid et1; have Et2 := hid et2
                        have hput : Hid (Grid (wr.setCell ⟨gs2 q, j, none⟩ (.int .u64 t2)).drew G i (n + 1) gs2 cs2 (fun o => if o = q then S.set j t2 else R3 o)) := hid (by
                          have h := HGS.out.put hlq (j := j) (by omega) t2
                          have e : (fun o => if o = q then ((fun o => if o = q then S else R3 o) q).set j t2 else (fun o => if o = q then S else R3 o) o) = fun o => if o = q then S.set j t2 else R3 o := by
                            funext o
                            by_cases h : o = q
                            · simp [h]
                            · simp [h]
                          exact Grid.ext (Eq.mp (congrArg (fun R => Grid (wr.setCell ⟨gs2 q, j, none⟩ (.int .u64 t2)) G i (n + 1) gs2 cs2 R) e) h) ((Ext.refl _).drew))
                        have hxp := hid ((hxs.setCell (p := ⟨gs2 q, j, none⟩) hbq (.int .u64 t2)).drew)
                        clear er0 er1 et1 et2 w1 w2
                        go_wp2_with fail
                        have hj1 : (j : Int) < (n : Int) + 1 := by omega
                        refine wp_region_still_tail 25 (by kernel_rfl) (by kernel_rfl) ?_
                        simp only [List.take_succ_cons, List.take_zero, List.drop_succ_cons, List.drop_zero]
                        change wpStill _ _ wr.drew _ _ _
                        iterate 22 still_step
                        still_call ((rMul p xq r1 t1 _ Hp.out xq0 xq1 rr2.1 (by omega) Et1.out).mono fun _ _ h => ⟨h.1, h.2.symm⟩)
                        still_call ((rSub p r0 t1 t2 _ Hp.out rr1.1 rr1.2 t10 t11 Et2.out).mono fun _ _ h => ⟨h.1, h.2.symm⟩)
                        still_step
                        refine wpStill_nil ?_
                        change wpList _ _ _ _ _ wr.drew
                        all_goals
                          go_wp2_with fail
                          go_roundw
                          case rel =>
                            refine ⟨j + 1, S.set j t2, by go_num, by omega, by omega, hput, hid (by rw [List.length_set]; exact HSl.out), hid (fun t => ?_), hxp.out⟩
                            · rw [set_get _ _ _ _ (by rw [HSl.out]; omega), HSt.out]
                              by_cases e : j = t
                              · subst e
                                rw [if_pos rfl, if_pos (by omega), Er0.out, Er1.out, ← Et2.out, ← Et1.out, ms_r]
                              · rw [if_neg e]
                                by_cases e2 : c ≤ t ∧ t < j
                                · rw [if_pos e2, if_pos (by omega)]
                                · rw [if_neg e2, if_neg (by omega)]
                          case measure => simp [intOf]; omega
                      · obtain rfl : j = n + 1 := by omega
                        have hsub := hid (HS3.out.sub (R' := fun o t => (if o = q then S else R3 o).getD t 0) (i := q) (q := xq) hp2.1 hq1 hlq (fun t ht => by
                          show (if q = q then S else R3 q).getD t 0 = ((R3 q).getD t 0 - xq * (R3 at_).getD t 0) % p
                          rw [if_pos rfl, HSt.out]
                          by_cases e : c ≤ t
                          · rw [if_pos (by omega)]
                          · have z1 : (R3 q).getD t 0 = 0 := HS3.out.zro q (by omega) hlq t (by omega)
                            have z2 : (R3 at_).getD t 0 = 0 := HS3.out.zro at_ (Nat.le_refl _) hak t (by omega)
                            rw [if_neg (by omega), z1, z2]; simp) (fun o ho => by
                          show (fun t => (if o = q then S else R3 o).getD t 0) = _
                          rw [if_neg ho]))
                        have hz := hid (show S.getD c 0 = 0 by
                          rw [HSt.out, if_pos (by omega), Ey.out, HP3.out, ← Exq.out]
                          exact gone hiv.out)
                        go_wp2_with fail
                        go_roundw
                        case rel => exact ⟨q + 1, fun o => if o = q then S else R3 o, by go_num, by omega, by omega, HGS, hsub, hid (by simp only []; rw [if_neg (by omega)]; exact HP3.out), hid (fun o h1 h2 => by
                          simp only []
                          by_cases e : o = q
                          · rw [if_pos e]; exact hz.out
                          · rw [if_neg e]; exact HZ3.out o h1 (by omega)), hxs⟩
                        case measure => simp [intOf]; omega
                  · obtain rfl : q = i := by omega
                    have hnx := hid (HS3.out.next hlc hak (v := iv) (by rw [HP3.out, hiv.out]; exact (mod_small (by omega) (by omega)).symm) fun o h1 h2 => HZ3.out o h1 h2)
                    go_wp2_with fail
                    go_roundw
                    case rel => exact ⟨c + 1, at_ + 1, gs2, cs2, R3, by go_num, by go_num, by omega, by omega, HG3, hb2, hnx, hx3⟩
                    case measure => simp [intOf]; omega
        · obtain rfl : c = n := by omega
          go_wp2_with fail
          go_loop [20] (fun iv => ∃ i : Nat, iv = .int .i64 i ∧ at_ ≤ i ∧ i ≤ k ∧ Hid (∀ o, at_ ≤ o → o < i → (R o).getD c 0 = 0)) (fun iv => k - (intOf iv).toNat)
          case atStart => exact ⟨at_, rfl, by omega, hat, hid (fun o h1 h2 => by omega)⟩
          case round =>
            obtain ⟨i, rfl, hi1, hi2, hF⟩ := hrel
            by_cases hli : i < k
            · have ch := (HG.out.hdr i hli).1
              have hlen := HG.out.len i hli
              have cc := ((HG.out.row i hli).2 c (by omega)).1
              have hr := HS.out.rng i hli c (by omega)
              rw [Nat.zero_add] at cc
              obtain ⟨y, ey⟩ : ∃ y, (R i).getD c 0 = y := ⟨_, rfl⟩
              rw [ey] at cc
              simp only [ey] at hr
              have Ey := hid ey
              obtain ⟨l1, l2, l3⟩ := hlen
              clear ey l1
              by_cases hy : y = 0
              · have b1 : (y != 0) = false := by simp [hy]
                have Hy := hid hy
                clear hy
                go_wp2_with fail
                go_round
                case rel => exact ⟨i + 1, by go_num, by omega, by omega, hid (fun o h1 h2 => by
                  by_cases e2 : o = i
                  · rw [e2, Ey.out, Hy.out]
                  · exact hF.out o h1 (by omega))⟩
                case measure => simp [intOf]; omega
              · have b1 : (y != 0) = true := by simp [hy]
                have Hy := hid hy
                clear hy
                go_wp2_with fail
                go_ret
                refine ⟨false, rfl, hxw, ?_⟩
                rw [Hm.out, ← HS.out.end]
                exact ⟨fun h => (by cases h), fun h => absurd (Ey.out.symm.trans (h i (by omega) hli)) Hy.out⟩
            · obtain rfl : i = k := by omega
              go_wp2_with fail
              go_ret
              refine ⟨true, rfl, hxw, ?_⟩
              rw [Hm.out, ← HS.out.end]
              exact ⟨fun _ => hF.out, fun _ => rfl⟩
end Go.Proofs.Ytbpbagejblbacaa
