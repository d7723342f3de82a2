/- Package matrix: Mul of what is right, One. -/
import Derived.Test.YtfpmcajndgkgeaaBun18
namespace Go.Proofs.Ytfpmcajndgkgeaa
open Go.RowKit Go.Maps

set_option maxRecDepth 100000 in
set_option maxHeartbeats 2000000 in
theorem mxMul_yes (p : Int) (m n q : Nat) (v u : Value) (xs ys : List Int) (w : World) (ok : MatOk p m n xs) (oky : MatOk p n q ys) (hv : Ints .u64 w v xs) (hu : Ints .u64 w u ys) :
    Calls Try.prog 46 #[.int .u64 p, matV m n v, matV n q u] w (RetN m q (mulL p m n q xs ys) w) := by
  have hp2 := rightB_true ok.hp
  have hb3 := hid (boxesM3 w 25 #[.int .i64 (m : Int), .int .i64 (n : Int), v] #[.int .i64 (n : Int), .int .i64 (q : Int), u] #[.int .i64 0, .int .i64 0, .slice none 0 0])
  have C1 := hid fun (W : World) (hW : Ext w W) => mxTurn_yes p n q u ys W oky (hu.ext hW)
  have C2 := hid fun (W : World) (hW : Ext w W) => mxRight p m n v xs W (by omega) (by omega) (hv.ext hW) ok.u64
  rw [ok.b] at C2
  have Ok := hid ok; have Oky := hid oky; have Hv := hid hv
  have Okt := hid oky.turn
  have hm := ok.hm; have hn := ok.hn; have hq := oky.hn
  obtain ⟨a, cap, rfl, k1, k2, k3⟩ := hv
  obtain ⟨b, off, rfl, hb, k4⟩ := k3 ok.pos
  obtain ⟨a', cap', rfl, m1, m2, m3⟩ := hu
  have hcap := hid fun (i : Nat) (h : i < m) => Nat.le_trans (ok.at_ h) k1
  clear k3 k4 m3 ok oky
  obtain ⟨Q, hQ⟩ : ∃ Q, m * q = Q := ⟨_, rfl⟩
  have hQb : Q ≤ 4096 := by rw [← hQ]; exact Nat.mul_le_mul hm.2 hq.2
  have HN := hid fun W : World => mxNoughts m q W hm.2 hq.2
  rw [hQ] at HN
  have HQ := hid hQ
  clear hQ
  obtain ⟨F, hF⟩ : ∃ F : Nat → Nat → Int, (fun i k => dv p n (fun j => xs.getD (i * n + j) 0) fun j => ys.getD (j * q + k) 0) = F := ⟨_, rfl⟩
  have HF := hid (fun i k => (congrFun (congrFun hF i) k : dv p n (fun j => xs.getD (i * n + j) 0) (fun j => ys.getD (j * q + k) 0) = F i k))
  unfold mulL
  rw [hF]
  clear hF
  unfold matV at C1 C2
  unfold matV
  go_enter Try.func46, Try.ntmps46
  go_wp2_with (first
    | (go_at_call 74; refine (C1.out _ (by repeat (first | exact Ext.refl _ | assumption | refine Ext.drew ?_ | refine Ext.drewN ?_ _ | refine Ext.alloc ?_ _ | refine Ext.trans ?_ (by assumption)))).mono ?_; rintro _ w1 ⟨u1, rfl, hI, x1⟩; have HI := hid hI; obtain ⟨a1, cap1, rfl, l1, l2, l3⟩ := hI; obtain ⟨b1, off1, rfl, hb1, l4⟩ := l3 Okt.out.pos; clear l3 l4; try unfold matV
       have y1 := (Ext.refl w1).alloc (.cells #[.int .i64 (q : Int), .int .i64 (n : Int), .slice (some ⟨b1, off1, none⟩) (turnL n q ys).length cap1] 25)
       have z1 := x1.trans y1
       have HA := hid (hb3.out.1.ext z1); have HB := hid (hb3.out.2.1.ext z1); have HR := hid (hb3.out.2.2.1.ext z1); have HE := hid (hb3.out.2.2.2.trans z1)
       have HT := hid (Blk.new w1 25 #[.int .i64 (q : Int), .int .i64 (n : Int), .slice (some ⟨b1, off1, none⟩) (turnL n q ys).length cap1])
       obtain ⟨b0, b1', b2⟩ := HA.out.at3)
    | (go_at_call 39; refine (C2.out _ HE.out).mono ?_; rintro _ w2 ⟨rfl, x2⟩
       obtain ⟨a0, a1, a2⟩ := (HA.out.ext x2).at3
       obtain ⟨c0, c1, c2⟩ := (HB.out.ext x2).at3)
    | fail)
  refine (HN.out _).mono ?_
  rintro _ w3 ⟨g, rfl, hg, hrow, x3⟩
  have HU := hid (Und.start (Q := Q) (r := (m : Int)) (c := (q : Int)) hg hrow List.length_replicate x3)
  unfold matV
  have y3 := x3.alloc (.cells #[.int .i64 (m : Int), .int .i64 (q : Int), .slice (some ⟨g, 0, none⟩) Q Q] 25)
  have b3 := (HA.out.ext (x2.trans y3)).at3
  clear b0 b1' b2 a0 a1 a2 c0 c1 c2
  obtain ⟨b0, b1', b2⟩ := b3
  go_wp2_with fail
  -- the worlds behind: w2 holds A, T, R; the product stands in g, its box in h
  obtain ⟨h, hh⟩ : ∃ h, w3.heap.size = h := ⟨_, rfl⟩
  obtain ⟨w4, hw4⟩ : ∃ w4, w3.alloc (.cells #[.int .i64 (m : Int), .int .i64 (q : Int), .slice (some ⟨g, 0, none⟩) Q Q] 25) = w4 := ⟨_, rfl⟩
  rw [hw4, hh] at HU
  rw [hw4, hh]
  replace HA := hid (HA.out.ext x2); replace HR := hid (HR.out.ext x2); replace HT := hid (HT.out.ext x2); replace HE := hid (HE.out.trans x2)
  have HI2 := hid (HI.out.ext (y1.trans x2))
  have hb1' : b1 < w2.heap.size := Nat.lt_of_lt_of_le hb1 (y1.trans x2).size
  have hR1 := HR.out.lt
  have hA1 := HA.out.lt
  have hT1 := HT.out.lt
  obtain ⟨hT, hhT⟩ : ∃ hT, w1.heap.size = hT := ⟨_, rfl⟩
  rw [hhT] at HT hT1
  rw [hhT]
  clear hh hw4 b0 b1' b2 hrow x3 y3 hg y1 z1 x1 hb1 hhT HB HI
  obtain ⟨gR, hgR⟩ : ∃ gR, w.heap.size + 1 + 1 = gR := ⟨_, rfl⟩
  have hgw : w.heap.size ≤ gR := by omega
  rw [hgR] at HR hR1
  rw [hgR]
  obtain ⟨gB, hgB⟩ : ∃ gB, w.heap.size + 1 = gB := ⟨_, rfl⟩
  rw [hgB]
  obtain ⟨gA, hgA⟩ : ∃ gA, w.heap.size = gA := ⟨_, rfl⟩
  rw [hgA] at HA hA1
  rw [hgA]
  clear hgR hgB hgA hb3
  have HLT := hid l1
  have hcapT := hid fun (j : Nat) (h : j < q) => Nat.le_trans (Okt.out.at_ h) l1
  go_loopw [43] (fun iv wr => ∃ (i : Nat) (l : List Int), iv = .int .i64 i ∧ i ≤ m ∧ Hid (Und w2 wr h g Q m q l) ∧ Hid (∀ a b, b < q → a < i → l.getD (a * q + b) 0 = F a b)) (fun iv _ => m - (intOf iv).toNat)
  case atStart => exact ⟨0, _, rfl, Nat.zero_le _, HU, hid (by omega)⟩
  case round =>
    clear HU
    obtain ⟨i, l, rfl, hi, HU, hl⟩ := hrel
    obtain ⟨b0, b1', b2⟩ := (HA.out.ext HU.out.ext).at3
    obtain ⟨o0, o1, o2⟩ := HU.out.box.at3
    by_cases hlt : i < m
    · have hck := hcap.out i hlt
      go_wp2_with fail
      refine (mxRow (m : Int) (q : Int) q i g 0 Q Q wr rfl hq (by omega) (by rw [← HQ.out, ← Nat.succ_mul]; exact Nat.mul_le_mul_right _ hlt) (by omega)).mono ?_
      rintro _ w5 ⟨rfl, x5⟩
      rw [Nat.zero_add]
      have hoQ : i * q + q ≤ Q := by rw [← HQ.out, ← Nat.succ_mul]; exact Nat.mul_le_mul_right _ hlt
      obtain ⟨o, ho⟩ : ∃ o, i * q = o := ⟨_, rfl⟩
      obtain ⟨cp, hcp⟩ : ∃ cp, Q - o = cp := ⟨_, rfl⟩
      rw [ho] at hoQ
      rw [ho, hcp]
      have hcpn : q ≤ cp := by omega
      have hcpb : cp ≤ 9223372036854775807 := by omega
      have Ho := hid ho
      clear ho hcp b0 b1' b2 o0 o1 o2
      go_wp2_with fail
      go_loopw [51] (fun jv wr => ∃ (j : Nat) (l : List Int), jv = .int .i64 j ∧ j ≤ q ∧ Hid (Und w2 wr h g Q m q l) ∧ Hid (∀ a b, b < q → (a < i ∨ a = i ∧ b < j) → l.getD (a * q + b) 0 = F a b)) (fun jv _ => q - (intOf jv).toNat)
      case atStart => exact ⟨0, l, rfl, Nat.zero_le _, hid (HU.out.ext' x5), hid fun a b hb ha => hl.out a b hb (by omega)⟩
      case round =>
        clear HU hl
        obtain ⟨j, l, rfl, hj, HU, hl⟩ := hrel
        rename World => wi
        by_cases hlj : j < q
        · obtain ⟨z, hz⟩ : ∃ z, F i j = z := ⟨_, rfl⟩
          have hdot : dotZ (piece xs i n) (piece (turnL n q ys) j n) % p = z := by
            rw [dot_piece (Ok.out.at_ hlt) (piece_len (Okt.out.at_ hlj)), ← hz, ← HF.out i j]
            exact dv_congr (fun _ _ => rfl) fun k hk => by rw [piece_get _ _ _ _ hk, turnL, grid_get _ hlj hk]
          have Hdot := hid hdot
          have Hz := hid hz
          clear hz hdot
          have hcT := hcapT.out j hlj
          obtain ⟨t, ht⟩ : ∃ t, o + j = t := ⟨_, rfl⟩
          have htQ : t < Q := by omega
          have Ht := hid (show i * q + j = t by rw [Ho.out]; exact ht)
          have fs := hid (fun (W : World) (hW : Ext wi W) => And.intro ((HA.out.ext (HU.out.ext.trans hW)).at3) ((HT.out.ext (HU.out.ext.trans hW)).at3))
          have fs2 := hid (fun (W : World) (hW : Ext wi W) (x : Value) => And.intro (((HA.out.ext (HU.out.ext.trans hW)).grown (setCell_grown W ⟨g, t, none⟩ x) (fun e => absurd (show g = gA by injection e) (by have := HU.out.hg; omega))).at3) (((HT.out.ext (HU.out.ext.trans hW)).grown (setCell_grown W ⟨g, t, none⟩ x) (fun e => absurd (show g = hT by injection e) (by have := HU.out.hg; omega))).at3))
          have hjQ : (j : Int) < (q : Int) := by omega
          have hj0 : (0 : Int) ≤ (j : Int) := by omega
          go_wp2_with fail
          go_region_held3 (fun w' => (w'.cell? ⟨gA, 0, none⟩ = some (.int .i64 (m : Int)) ∧ w'.cell? ⟨gA, 1, none⟩ = some (.int .i64 (n : Int)) ∧ w'.cell? ⟨gA, 2, none⟩ = some (.slice (some ⟨b, off, none⟩) xs.length cap)) ∧ w'.cell? ⟨hT, 0, none⟩ = some (.int .i64 (q : Int)) ∧ w'.cell? ⟨hT, 1, none⟩ = some (.int .i64 (n : Int)) ∧ w'.cell? ⟨hT, 2, none⟩ = some (.slice (some ⟨b1, off1, none⟩) (turnL n q ys).length cap1)) (first | assumption | exact fs.out _ ((Ext.refl wi).drew) | exact fs.out _ (by assumption) | exact fs2.out _ (by assumption) _)
            ((first
              | (go_at_call_of 98 b; refine (mxRow (m : Int) (n : Int) n i b off xs.length cap _ rfl hn (by omega) hck k2).mono ?_; rintro _ w6 ⟨rfl, x6⟩; have y6 : Ext wi w6 := Ext.trans (by first | exact (Ext.refl wi).drew | assumption) x6)
              | (go_at_call_of 98 b1; refine (mxRow (q : Int) (n : Int) n j b1 off1 (turnL n q ys).length cap1 _ rfl hn (by omega) hcT l2).mono ?_; rintro _ w7 ⟨rfl, x7⟩; have y7 : Ext wi w7 := Ext.trans (by first | exact (Ext.refl wi).drew | assumption) x7)
              | (go_at_call 47
                 refine (dot_as p z _ _ (piece xs i n) (piece (turnL n q ys) j n) _ ((Hv.out.ext (HE.out.trans (HU.out.ext.trans y7))).sub (i * n) n (Ok.out.at_ hlt) hn.1) ((HI2.out.ext (HU.out.ext.trans y7)).sub (j * n) n (Okt.out.at_ hlj) hn.1) ((piece_rng Ok.out.hx i n).u64 hp2.2) ((piece_rng Okt.out.hx j n).u64 hp2.2) (by rw [piece_len (Ok.out.at_ hlt), piece_len (Okt.out.at_ hlj)]) ((piece_rng Ok.out.hx i n).has Ok.out.hp) ((piece_rng Okt.out.hx j n).has Ok.out.hp) Hdot.out).mono ?_
                 rintro _ w8 ⟨rfl, x8⟩
                 have y8 : Ext wi w8 := y7.trans x8
                 have HU8 := hid (HU.out.ext' y8)
                 obtain ⟨gt, ft⟩ := HU8.out.at_ htQ)))
          go_wp2_with fail
          go_roundw
          case rel =>
            refine ⟨j + 1, l.set t z, by go_num, by omega, hid (HU8.out.put htQ z), hid fun a b hb ha => ?_⟩
            rw [← Ht.out, put_at z hlj hb (by rw [Ht.out, HU.out.len]; exact htQ)]
            by_cases e : a = i ∧ b = j
            · rw [if_pos e, e.1, e.2]; exact Hz.out.symm
            · rw [if_neg e]; exact hl.out a b hb (by omega)
          case measure => simp [intOf]; omega
        · obtain rfl : q = j := by omega
          go_wp2_with fail
          go_roundw
          case rel => exact ⟨i + 1, l, by go_num, by omega, HU, hid fun a b hb ha => hl.out a b hb (by omega)⟩
          case measure => simp [intOf]; omega
    · obtain rfl : m = i := by omega
      have hRr := HR.out.ext HU.out.ext
      obtain ⟨r0, r1, r2⟩ := hRr.at3
      have f0 := hRr.frozen 0
      have f1 := hRr.frozen 1
      have f2 := hRr.frozen 2
      have FF := hid (HU.out.fin hRr hR1 (HE.out.trans HU.out.ext) hgw (by omega))
      clear hRr
      go_wp2_with fail
      refine bodyPost_ret (results_cell_row_tmp rfl _ _ gR 25 _ (0, 0) _ rfl FF.out.1 Try.underlying25 rfl (by kernel_rfl)) rfl ?_
      have e : l = grid m q _ := grid_of (by rw [HU.out.len, HQ.out]) fun a b ha hb => hl.out a b hb ha
      exact ⟨_, rfl, e ▸ FF.out.2.1, FF.out.2.2⟩
end Go.Proofs.Ytfpmcajndgkgeaa
