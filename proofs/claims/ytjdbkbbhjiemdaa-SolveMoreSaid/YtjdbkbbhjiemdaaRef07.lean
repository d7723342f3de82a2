/- The document's own answer of layer 7 that later layers ask for: a determinant, by the first row. -/
import Derived.Test.YtjdbkbbhjiemdaaCupB1
import Derived.Test.YtjdbkbbhjiemdaaCupB8
import Derived.Deep.RegionHeld3
namespace Go.Proofs.Ytjdbkbbhjiemdaa
open Go.RowKit Go.Maps

/-- a matrix's numbers, by row and column -/
def atF (n : Nat) (xs : List Int) : Nat → Nat → Int := fun i j => xs.getD (i * n + j) 0
/-- the minor without the first row and a column, as it is built -/
def minG (N : Nat) (xs : List Int) (k : Nat) : Nat → Int := fun t => atF (N + 1) xs (t / N + 1) (skp k (t % N))
theorem minG_atF (N : Nat) (xs : List Int) (k i j : Nat) (hi : i < N) (hj : j < N) : atF N (tab (N * N) (minG N xs k)) i j = atF (N + 1) xs (i + 1) (skp k j) := by
  unfold atF
  rw [tab_get _ (at_lt hi hj)]
  show atF (N + 1) xs ((i * N + j) / N + 1) (skp k ((i * N + j) % N)) = _
  rw [at_div hj, at_mod hj]
  rfl
/-- the sum over the first row, so far -/
def detTo (N : Nat) (xs : List Int) (p : Int) (k : Nat) : Int := (sm k fun t => sg t * atF (N + 1) xs 0 t * detF N (fun i j => atF (N + 1) xs (i + 1) (skp t j))) % p
theorem detTo_all (N : Nat) (xs : List Int) (p : Int) : detTo N xs p (N + 1) = detF (N + 1) (atF (N + 1) xs) % p := by rw [detF_succ]; rfl
theorem detTo_succ (N : Nat) (xs : List Int) (p : Int) (k : Nat) : detTo N xs p (k + 1) = (if k % 2 = 0 then (detTo N xs p k + (atF (N + 1) xs 0 k * (detF N (fun i j => atF (N + 1) xs (i + 1) (skp k j)) % p)) % p) % p else (detTo N xs p k - (atF (N + 1) xs 0 k * (detF N (fun i j => atF (N + 1) xs (i + 1) (skp k j)) % p)) % p) % p) := by
  obtain ⟨D, hD⟩ : ∃ D, detF N (fun i j => atF (N + 1) xs (i + 1) (skp k j)) = D := ⟨_, rfl⟩
  have e : (sm (k + 1) fun t => sg t * atF (N + 1) xs 0 t * detF N (fun i j => atF (N + 1) xs (i + 1) (skp t j))) = (sm k fun t => sg t * atF (N + 1) xs 0 t * detF N (fun i j => atF (N + 1) xs (i + 1) (skp t j))) + sg k * atF (N + 1) xs 0 k * D := by rw [← hD]; rfl
  unfold detTo
  rw [e, hD, mm_r, ma_l, ms_l]
  by_cases h : k % 2 = 0
  · rw [if_pos h, ma_r, show sg k = 1 by unfold sg; rw [if_pos h]]
    congr 1; grind
  · rw [if_neg h, ms_r, show sg k = -1 by unfold sg; rw [if_neg h]]
    congr 1; grind
set_option maxRecDepth 100000 in
set_option maxHeartbeats 2000000 in
theorem r7Det_step (p : Int) (N : Nat) (hN : 1 ≤ N ∧ N ≤ 63) (hp : rightB p = true)
    (IH : ∀ (v : Value) (ys : List Int) (W : World), Ints .u64 W v ys → Rng p ys → ys.length = N * N → Calls Try.prog 78 #[.int .u64 p, matV N N v] W (Ret (.int .u64 (detF N (atF N ys) % p)) W))
    (v : Value) (xs : List Int) (w : World) (hv : Ints .u64 w v xs) (hx : Rng p xs) (hl : xs.length = (N + 1) * (N + 1)) :
    Calls Try.prog 78 #[.int .u64 p, matV ((N : Int) + 1) ((N : Int) + 1) v] w (Ret (.int .u64 (detF (N + 1) (atF (N + 1) xs) % p)) w) := by
  have hp2 := rightB_true hp
  obtain ⟨i0, hi, hz0, hz1, hz2⟩ := info_parts info_u64p
  have Hp := hid hp; have Hv := hid hv; have Hx := hid hx; have Hl := hid hl; have HIH := hid IH
  rw [← detTo_all]
  obtain ⟨a, cap, rfl, k1, k2, k3⟩ := hv
  have K3 := hid k3
  have b1 : (((N : Int) + 1) == 1) = false := by rw [beq_eq_false_iff_ne]; omega
  clear k3 hp hx hl IH
  unfold matV
  go_enter Try.func78, Try.ntmps78
  go_wp2_with fail
  have hbox := hid (box3 w 25 (.int .i64 ((N : Int) + 1)) (.int .i64 ((N : Int) + 1)) (.slice a xs.length cap))
  have hbox_blk := hid (Blk.new w 25 #[.int .i64 ((N : Int) + 1), .int .i64 ((N : Int) + 1), .slice a xs.length cap])
  have hx1 : Ext w (w.alloc (.cells #[.int .i64 ((N : Int) + 1), .int .i64 ((N : Int) + 1), .slice a xs.length cap] 25)) := (Ext.refl w).alloc _
  obtain ⟨w1, hw1⟩ : ∃ w1, w.alloc (.cells #[.int .i64 ((N : Int) + 1), .int .i64 ((N : Int) + 1), .slice a xs.length cap] 25) = w1 := ⟨_, rfl⟩
  obtain ⟨g, hg⟩ : ∃ g, w.heap.size = g := ⟨_, rfl⟩
  rw [hw1, hg] at hbox hbox_blk
  rw [hw1] at hx1
  rw [hw1, hg]
  clear hw1 hg b1
  go_loopw [6, 5] (fun kv zv wr => ∃ (k : Nat) (z : Int), kv = .int .i64 k ∧ zv = .int .u64 z ∧ k ≤ N + 1 ∧ 0 ≤ z ∧ z < p ∧ Hid (z = detTo N xs p k) ∧ Ext w1 wr) (fun kv _ _ => N + 1 - (intOf kv).toNat)
  case atStart => exact ⟨0, 0, rfl, rfl, Nat.zero_le _, by omega, by omega, hid (by simp [detTo, sm]), Ext.refl _⟩
  case round =>
    obtain ⟨k, z, rfl, rfl, hk, z0, z1, hz, hxr⟩ := hrel
    rename World => wo
    obtain ⟨b0, b1, b2⟩ := hbox.out wo hxr
    by_cases hlt : k < N + 1
    · have hbk : decide ((k : Int) < (N : Int) + 1) = true := decide_eq_true (by omega)
      obtain ⟨G, hG⟩ : ∃ G, minG N xs k = G := ⟨_, rfl⟩
      have HG := hid hG
      clear hG
      go_wp2_with fail
      have hO0 := Blk.new wo 25 #[.int .i64 (N : Int), .int .i64 (N : Int), .slice none 0 0]
      have hx7 : Ext wo (wo.alloc (.cells #[.int .i64 (N : Int), .int .i64 (N : Int), .slice none 0 0] 25)) := (Ext.refl wo).alloc _
      obtain ⟨w7, hw7⟩ : ∃ W, wo.alloc (.cells #[.int .i64 (N : Int), .int .i64 (N : Int), .slice none 0 0] 25) = W := ⟨_, rfl⟩
      obtain ⟨g7, hg7⟩ : ∃ g, wo.heap.size = g := ⟨_, rfl⟩
      rw [hw7, hg7] at hO0
      rw [hw7] at hx7
      rw [hw7, hg7]
      have HB0 := hid (show Bld wo w7 g7 w7.heap.size N N (.slice none 0 0) 0 G from ⟨hO0, World.ownsRow_nil _ _ _ _, hx7, hx7.size, by omega⟩)
      clear hw7 hg7 hO0 b0 b1 b2
      go_loopw [8] (fun iv wr => ∃ (i t : Nat) (rv : Value), iv = .int .i64 i ∧ 1 ≤ i ∧ i ≤ N + 1 ∧ Hid (t = (i - 1) * N) ∧ Hid (Bld wo wr g7 w7.heap.size N N rv t G) ∧ w7.heap.size ≤ wr.heap.size) (fun iv _ => N + 1 - (intOf iv).toNat)
      case atStart => exact ⟨1, 0, _, rfl, by omega, by omega, hid (by simp), HB0, Nat.le_refl _⟩
      case round =>
        obtain ⟨i, t, rv, rfl, hi1, hi2, ht, HB, hsz⟩ := hrel
        rename World => wi
        obtain ⟨b0, b1, b2⟩ := hbox.out wi (hxr.trans HB.out.ext)
        by_cases hli : i < N + 1
        · have hbi : decide ((i : Int) < (N : Int) + 1) = true := decide_eq_true (by omega)
          go_wp2_with fail
          go_loopw [9] (fun jv wr => ∃ (j t' : Nat) (rv' : Value), jv = .int .i64 j ∧ j ≤ N + 1 ∧ Hid (t' = t + (if j ≤ k then j else j - 1)) ∧ Hid (Bld wo wr g7 w7.heap.size N N rv' t' G) ∧ w7.heap.size ≤ wr.heap.size) (fun jv _ => N + 1 - (intOf jv).toNat)
          case atStart => exact ⟨0, t, rv, rfl, Nat.zero_le _, hid (by simp), HB, hsz⟩
          case round =>
            clear HB hsz b0 b1 b2
            obtain ⟨j, t', rv, rfl, hj, ht', HB, hsz⟩ := hrel
            rename World => wj
            obtain ⟨b0, b1, b2⟩ := hbox.out wj (hxr.trans HB.out.ext)
            by_cases hlj : j < N + 1
            · by_cases hjk : j = k
              · have hb : ((j : Int) != (k : Int)) = false := by simp [hjk]
                have e' := hid (show t' = t + (if j + 1 ≤ k then j + 1 else j + 1 - 1) by rw [ht'.out, if_pos (by omega), if_neg (by omega)]; omega)
                clear hjk
                go_wp2_with fail
                go_roundw
                case rel => exact ⟨j + 1, t', rv, by go_num, by omega, e', HB, hsz⟩
                case measure => simp [intOf]; omega
              · have hb : ((j : Int) != (k : Int)) = true := by rw [bne_iff_ne]; omega
                have e' := hid (show t' + 1 = t + (if j + 1 ≤ k then j + 1 else j + 1 - 1) by
                  rw [ht'.out]
                  by_cases c : j < k
                  · rw [if_pos (by omega), if_pos (by omega)]; omega
                  · rw [if_neg (by omega), if_neg (by omega)]; omega)
                obtain ⟨j', hj', hsk⟩ : ∃ j', j' < N ∧ skp k j' = j ∧ t' = (i - 1) * N + j' := by
                  by_cases c : j < k
                  · exact ⟨j, by omega, by unfold skp; rw [if_pos c], by rw [ht'.out, if_pos (by omega), ht.out]⟩
                  · exact ⟨j - 1, by omega, by unfold skp; rw [if_neg (by omega)]; omega, by rw [ht'.out, if_neg (by omega), ht.out]⟩
                have hat := at_lt (r := N + 1) hli hlj
                have hA := hid (fun (W : World) (hW : Ext wj W) => rmAt ((N : Int) + 1) ((N : Int) + 1) (.slice a xs.length cap) xs i j (N + 1) W (Hv.out.ext (hx1.trans (hxr.trans (HB.out.ext.trans hW)))) (by push_cast; rfl) (by omega) (by omega) (by omega) (by rw [Hl.out]; exact hat))
                obtain ⟨y, ey⟩ : ∃ y, xs.getD (i * (N + 1) + j) 0 = y := ⟨_, rfl⟩
                rw [ey] at hA
                have hGt : G t' = y := by
                  rw [← HG.out, hsk.2]
                  show atF (N + 1) xs (((i - 1) * N + j') / N + 1) (skp k (((i - 1) * N + j') % N)) = y
                  rw [at_div hj', at_mod hj', hsk.1, show i - 1 + 1 = i by omega]
                  exact ey
                have happ := hid (show ((tab t' G).map (Value.int .u64)) ++ [Value.int .u64 y] = (tab (t' + 1) G).map (Value.int .u64) by rw [tab_succ, List.map_append, hGt]; rfl)
                have htb : t' ≤ 4096 := by
                  have h1 := at_lt (r := N) (show i - 1 < N by omega) hj'
                  have h2 := Nat.mul_le_mul hN.2 hN.2
                  omega
                obtain ⟨o0, o1, o2⟩ := HB.out.box.at3
                have of := HB.out.box.frozen 2
                have HAb := hid (show Blk wj g 25 #[.int .i64 ((N : Int) + 1), .int .i64 ((N : Int) + 1), .slice a xs.length cap] from hbox_blk.out.ext (hxr.trans HB.out.ext))
                clear ey hGt hat hjk hsk
                unfold matV at hA
                go_wp2_with fail
                go_region_law (first
                  | (refine step_append_at _ rfl (.tmp 47) (.tmp 52) 23 rfl w7.heap.size 22 i0 (.int .u64 0) 1 8 Try.underlying23 hi hz0 hz1 hz2 rfl (by decide) rv t' ((tab t' G).map (Value.int .u64)) (by simp [Act.eval]) (ownsRow_ext HB.out.own ((((Ext.refl wj).drew).trans x5).alloc _)) ⟨w5.heap.size, 0, none⟩ 1 1 [.int .u64 y] (by simp [Act.eval]) rfl (cells_new _ _ _ (by simp)) (by simp [Value.oneCell']) (by simp only [maxLen]; omega) (by omega) (by have := x5.size; simp at this ⊢; omega) ?_
                     intro v6 w6 hown6 hgrow6 hat6
                     have hb6 := (HB.out.ext' ((((Ext.refl wj).drew).trans x5).alloc (.cells #[.int .u64 y] 22))).box' hgrow6
                     have o6 := hb6.1
                     have f6 := hb6.2
                     rw [happ.out] at hown6
                     have Hown6 := hid hown6
                     obtain ⟨a6, c6, rfl, q2, q3, q4, q5⟩ := WRow.of_owns hown6
                     clear q5 q4 hown6 hb6)
                  | (go_simp; go_at_call 53; refine (hA.out _ ((Ext.refl wj).drew)).mono ?_; rintro _ w5 ⟨rfl, x5⟩
                     obtain ⟨p0, p1, p2⟩ := (HB.out.box.ext (((Ext.refl wj).drew).trans x5)).at3
                     obtain ⟨r0, r1, r2⟩ := (HAb.out.ext (((Ext.refl wj).drew).trans x5)).at3
                     obtain ⟨s0, s1, s2⟩ := (HB.out.box.ext ((((Ext.refl wj).drew).trans x5).alloc (.cells #[.int .u64 y] 22))).at3))
                all_goals
                  have e5 : Ext wj (w5.alloc (.cells #[.int .u64 y] 22)) := ((((Ext.refl wj).drew).trans x5).alloc _)
                  have hs5 := e5.size
                  have hs6 := hgrow6.size
                  have hB5 := HB.out.ext' e5
                  go_wp2_with fail
                  go_roundw
                  case rel => exact ⟨j + 1, t' + 1, _, by go_num, by omega, e', hid (hB5.next Hown6.out hgrow6), by simp only [World.setCell, Array.size_modify]; omega⟩
                  case measure => simp [intOf]; omega
            · obtain rfl : j = N + 1 := by omega
              have e' := hid (show t' = (i + 1 - 1) * N by
                rw [ht'.out, if_neg (by omega), ht.out, show i + 1 - 1 = (i - 1) + 1 by omega, Nat.succ_mul]; omega)
              go_wp2_with fail
              go_roundw
              case rel => exact ⟨i + 1, t', rv, by go_num, by omega, by omega, e', HB, hsz⟩
              case measure => simp [intOf]; omega
        · obtain rfl : i = N + 1 := by omega
          have htN := ht.out
          rw [Nat.add_sub_cancel] at htN
          subst htN
          have hxi := HB.out.ext
          have hlk : k < xs.length := by
            rw [Hl.out]
            exact Nat.lt_of_lt_of_le hlt (Nat.le_mul_of_pos_left _ (by omega))
          obtain ⟨b, off, rfl, hb, hc⟩ := K3.out (by omega)
          have gx := ((hx1.trans (hxr.trans hxi)).cells _ _ hb).trans (hc k hlk)
          have rx := Hx.out.get hlk
          have hI := own_ints HB.out.own
          obtain ⟨a6, c6, rfl, q2, q3, q4, q5⟩ := WRow.of_owns HB.out.own
          clear q5 q4 hc
          have HI := hid hI
          have HR := hid (show Rng p (tab (N * N) G) from tab_rng fun t _ => by rw [← HG.out]; exact Hx.out.getD hp2.1 _)
          have hD : detF N (atF N (tab (N * N) G)) = detF N (fun i j => atF (N + 1) xs (i + 1) (skp k j)) := detF_congr N fun i j hi hj => by rw [← HG.out]; exact minG_atF N xs k i j hi hj
          have hsucc := detTo_succ N xs p k
          rw [← hz.out] at hsucc
          have ex0 : atF (N + 1) xs 0 k = xs.getD k 0 := by unfold atF; rw [Nat.zero_mul, Nat.zero_add]
          rw [ex0, ← hD] at hsucc
          obtain ⟨x, ex⟩ : ∃ x, xs.getD k 0 = x := ⟨_, rfl⟩
          rw [ex] at gx rx hsucc
          obtain ⟨y, ey⟩ : ∃ y, detF N (atF N (tab (N * N) G)) % p = y := ⟨_, rfl⟩
          have ry : 0 ≤ y ∧ y < p := by rw [← ey]; exact mod_range _ hp2.1
          have hC := hid (fun (W : World) (hW : Ext wi W) => (ey ▸ HIH.out _ _ W (HI.out.ext hW) HR.out (tab_len _ _) : Calls Try.prog 78 #[.int .u64 p, matV N N (.slice a6 (N * N) c6)] W (Ret (.int .u64 y) W)))
          rw [ey] at hsucc
          obtain ⟨q, eq, q0, q1⟩ := name_mod (p := p) (x * y) hp2.1
          rw [eq] at hsucc
          have Eq := hid eq; have Hs := hid hsucc
          obtain ⟨b0', b1', b2'⟩ := hbox.out wi (hxr.trans hxi)
          have fs := hid (fun (W : World) (hW : Ext wi W) => And.intro ((hbox.out W ((hxr.trans hxi).trans hW))) (And.intro ((HB.out.box.ext hW).at3) ((hW.cells _ _ (cell_lt gx)).trans gx)))
          obtain ⟨o0, o1, o2⟩ := HB.out.box.at3
          clear ex ex0 ey eq hsucc hD hI
          unfold matV at hC
          go_wp2_with fail
          go_region_held3 (fun w' => (w'.cell? ⟨g, 0, none⟩ = some (.int .i64 ((N : Int) + 1)) ∧ w'.cell? ⟨g, 1, none⟩ = some (.int .i64 ((N : Int) + 1)) ∧ w'.cell? ⟨g, 2, none⟩ = some (.slice (some ⟨b, off, none⟩) xs.length cap)) ∧ (w'.cell? ⟨g7, 0, none⟩ = some (.int .i64 (N : Int)) ∧ w'.cell? ⟨g7, 1, none⟩ = some (.int .i64 (N : Int)) ∧ w'.cell? ⟨g7, 2, none⟩ = some (.slice a6 (N * N) c6)) ∧ w'.cell? ⟨b, off + k, none⟩ = some (.int .u64 x)) (first | assumption | exact fs.out _ ((Ext.refl wi).drew) | exact fs.out _ (((Ext.refl wi).drew).trans x5))
            ((first
              | (go_at_call 78; refine (hC.out _ ((Ext.refl wi).drew)).mono ?_; rintro _ w5 ⟨rfl, x5⟩)
              | (go_at_call 77; refine (rMul p x y q _ Hp.out rx.1 rx.2 ry.1 (by omega) Eq.out).mono ?_; rintro _ _ ⟨rfl, rfl⟩)))
          have e5 : Ext wi w5 := ((Ext.refl wi).drew).trans x5
          by_cases hk2 : k % 2 = 0
          · have hb2 : ((k : Int) % 2 == 0) = true := by rw [beq_iff_eq]; omega
            obtain ⟨t, et, t0, t1⟩ := name_mod (p := p) (z + q) hp2.1
            have Et := hid et
            have e' := hid (show t = detTo N xs p (k + 1) by rw [Hs.out, if_pos hk2, et])
            clear et hk2
            go_wp2_with (go_at_call 79; refine (rAdd p z q t _ Hp.out z0 z1 q0 q1 Et.out).mono ?_; rintro _ _ ⟨rfl, rfl⟩)
            go_roundw
            case rel => exact ⟨k + 1, t, by go_num, rfl, by omega, t0, t1, e', hxr.trans (hxi.trans e5)⟩
            case measure => simp [intOf]; omega
          · have hb2 : ((k : Int) % 2 == 0) = false := by rw [beq_eq_false_iff_ne]; omega
            obtain ⟨t, et, t0, t1⟩ := name_mod (p := p) (z - q) hp2.1
            have Et := hid et
            have e' := hid (show t = detTo N xs p (k + 1) by rw [Hs.out, if_neg hk2, et])
            clear et hk2
            go_wp2_with (go_at_call 52; refine (rSub p z q t _ Hp.out z0 z1 q0 q1 Et.out).mono ?_; rintro _ _ ⟨rfl, rfl⟩)
            go_roundw
            case rel => exact ⟨k + 1, t, by go_num, rfl, by omega, t0, t1, e', hxr.trans (hxi.trans e5)⟩
            case measure => simp [intOf]; omega
    · obtain rfl : k = N + 1 := by omega
      have hz' := hid hz.out
      clear hz
      go_wp2_with fail
      go_ret
      exact ⟨ret_int hz'.out, hx1.trans hxr⟩

set_option maxHeartbeats 1000000 in
theorem r7Det_one (p : Int) (v : Value) (xs : List Int) (w : World) (hv : Ints .u64 w v xs) (hx : Rng p xs) (hl : xs.length = 1) :
    Calls Try.prog 78 #[.int .u64 p, matV 1 1 v] w (Ret (.int .u64 (detF 1 (atF 1 xs) % p)) w) := by
  have e : detF 1 (atF 1 xs) % p = xs.getD 0 0 := by
    have h1 : detF 1 (atF 1 xs) = xs.getD 0 0 := by
      rw [detF_succ]
      show 0 + sg 0 * xs.getD (0 * 1 + 0) 0 * 1 = _
      simp [sg]
    rw [h1]
    have := hx.get (k := 0) (by omega)
    exact mod_small this.1 this.2
  rw [e]
  clear e hx
  obtain ⟨a, cap, rfl, k1, k2, k3⟩ := hv
  obtain ⟨b, off, rfl, hb, hc⟩ := k3 (by omega)
  have g0 := hc 0 (by omega)
  obtain ⟨x, ex⟩ : ∃ x, xs.getD 0 0 = x := ⟨_, rfl⟩
  rw [ex, Nat.add_zero] at g0
  rw [ex, hl]
  have hx1 : Ext w (w.alloc (.cells #[.int .i64 1, .int .i64 1, .slice (some ⟨b, off, none⟩) 1 cap] 25)) := (Ext.refl w).alloc _
  have hbox := hid (box3 w 25 (.int .i64 1) (.int .i64 1) (.slice (some ⟨b, off, none⟩) 1 cap))
  have g1 := (hx1.cells _ _ hb).trans g0
  have HX := hid hx1
  clear hc k3 ex hl g0 k1
  unfold matV
  go_enter Try.func78, Try.ntmps78
  go_wp2_with fail
  go_ret
  exact ⟨rfl, HX.out⟩
/-- the determinant, by the first row: at most 64 rows -/
theorem r7Det (p : Int) (hp : rightB p = true) : ∀ (n : Nat), 1 ≤ n → n ≤ 64 → ∀ (v : Value) (xs : List Int) (w : World), Ints .u64 w v xs → Rng p xs → xs.length = n * n →
    Calls Try.prog 78 #[.int .u64 p, matV n n v] w (Ret (.int .u64 (detF n (atF n xs) % p)) w)
  | 0, h, _, _, _, _, _, _, _ => absurd h (by omega)
  | 1, _, _, v, xs, w, hv, hx, hl => r7Det_one p v xs w hv hx (by omega)
  | N + 2, _, h2, v, xs, w, hv, hx, hl => by
    have := r7Det_step p (N + 1) ⟨by omega, by omega⟩ hp (fun v' ys W h3 h4 h5 => r7Det p hp (N + 1) (by omega) (by omega) v' ys W h3 h4 h5) v xs w hv hx hl
    exact this
end Go.Proofs.Ytjdbkbbhjiemdaa
