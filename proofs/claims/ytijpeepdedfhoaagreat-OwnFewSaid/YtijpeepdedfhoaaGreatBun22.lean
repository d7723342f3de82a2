/- What the texts OwL, Ow4, OwF show, in one text. -/
import Derived.Test.YtijpeepdedfhoaaGreatBun14
import Derived.Test.YtijpeepdedfhoaaGreatBun19
import Derived.Test.YtijpeepdedfhoaaGreatEval
import Derived.Test.YtijpeepdedfhoaaGreatBun18
import Derived.Test.YtijpeepdedfhoaaGreatBun21
import Derived.Test.YtijpeepdedfhoaaGreatOw3
import Derived.Test.YtijpeepdedfhoaaGreatBun28
/- A matrix at a place, as lists: what is answered there, which claims pass (in plain Lean; nothing of a program). -/
namespace Go.Proofs.YtijpeepdedfhoaaGreat
open Go.RowKit
variable {p : Int} {n : Nat} {xs F f u v w : List Int}

/-- a polynomial at a place, from its greatest term down, is its sum -/
theorem hor_ev (z : Int) : ∀ l : List Int, hor p z l.reverse = evF l.length (fun k => l.getD k 0) z % p
  | [] => by simp [hor, evF, sm]
  | c :: cs => by
    rw [List.reverse_cons, hor_snoc, hor_ev z cs, List.length_cons]
    show (_ % p * z + c) % p = evF (cs.length + 1) (fun k => (c :: cs).getD k 0) z % p
    unfold evF
    rw [sm_head]
    have e : (sm cs.length fun i => (c :: cs).getD (i + 1) 0 * z ^ (i + 1)) = (sm cs.length fun k => cs.getD k 0 * z ^ k) * z := by
      rw [← sm_mul_r]
      exact sm_congr fun k _ => by rw [Int.pow_succ]; simp [List.getD]; grind
    rw [e, Int.add_comm _ c, ← ma_r, mm_l, ma_r]
    congr 1
    simp [List.getD]
theorem ev_pol (z : Int) (l : List Int) : evF l.length (pol p l).co z % p = hor p z l.reverse := by
  rw [hor_ev]
  exact sm_mod fun k _ => by rw [pol_co, mm_l]
theorem ev_pol_le (z : Int) {l : List Int} {d : Nat} (h : l.length ≤ d) : evF d (pol p l).co z % p = hor p z l.reverse := by
  rw [ev_long (pol_low l) h, ev_pol]
/-- a number on the diagonal, less the matrix -/
def shL (p : Int) (n : Nat) (z : Int) (xs : List Int) : List Int := grid n n fun i k => ((if i = k then z else 0) - xs.getD (i * n + k) 0) % p
theorem shL_ok (ok : MatOk p n n xs) (z : Int) : MatOk p n n (shL p n z xs) := ⟨ok.hp, grid_rng fun _ _ _ _ => mod_range _ (rightB_true ok.hp).1, ok.hm, ok.hn, grid_len _ _ _⟩
theorem shL_times (z : Int) (w : List Int) {i : Nat} (hi : i < n) : (timesL p n n (shL p n z xs) w).getD i 0 = offF n (atF n xs) z (atV w) i % p := by
  unfold timesL
  rw [tab_get _ hi]
  unfold dv
  rw [sm_mod (g := fun k => (if k = i then z * atV w k else 0) - atF n xs i k * atV w k) fun k hk => by
    show (shL p n z xs).getD (i * n + k) 0 * w.getD k 0 % p = _
    rw [shL, grid_get _ hi hk, mm_l]
    by_cases e : i = k
    · subst e; rw [if_pos rfl, if_pos rfl]; show ((z - xs.getD (i * n + i) 0) * w.getD i 0) % p = _; rw [Int.sub_mul]; rfl
    · rw [if_neg e, if_neg (fun h => e h.symm)]; show ((0 - xs.getD (i * n + k) 0) * w.getD k 0) % p = _; rw [Int.sub_mul, Int.zero_mul]; rfl, sm_dec, sm_single (fun k => z * atV w k) hi]
  rfl
theorem sh_eqv {z : Int} (h : timesL p n n (shL p n z xs) w = v) : Eqv p n (offF n (atF n xs) z (atV w)) (atV v) := fun i hi => by
  show _ = v.getD i 0 % p
  rw [← h, shL_times z w hi, Int.emod_emod]
theorem eqv_sh (hr : Rng p v) (hl : v.length = n) {z : Int} (h : Eqv p n (offF n (atF n xs) z (atV w)) (atV v)) : timesL p n n (shL p n z xs) w = v := list_ext (by rw [timesL_len, hl]) fun i hi => by
  have hi' : i < n := by rwa [timesL_len] at hi
  rw [shL_times z w hi', h i hi']
  have := hr.get (k := i) (by omega)
  exact mod_small this.1 this.2
/-- the polynomial that the answers follow, as a list -/
def folL (p : Int) (n : Nat) (xs F u v : List Int) : List Int := trimL (tab (F.length - 1) fun m => folF F.length (fun k => F.getD k 0) (dotS n (atF n xs) (atV u) (atV v)) m % p)
theorem folL_rng (hp : 2 ≤ p) : Rng p (tab (F.length - 1) fun m => folF F.length (fun k => F.getD k 0) (dotS n (atF n xs) (atV u) (atV v)) m % p) := tab_rng fun _ _ => mod_range _ hp
theorem folL_pol (hp : 2 ≤ p) : Pol p (folL p n xs F u v) := (trimL_pol (folL_rng hp)).1
theorem folL_len : (folL p n xs F u v).length ≤ F.length - 1 := by
  unfold folL trimL
  rw [List.length_take, tab_len]
  omega
theorem folL_hor (hp : 2 ≤ p) (z : Int) : hor p z (folL p n xs F u v).reverse = evF (F.length - 1) (folF F.length (fun k => F.getD k 0) (dotS n (atF n xs) (atV u) (atV v))) z % p := by
  rw [← ev_pol_le z (folL_len (p := p) (n := n) (xs := xs) (F := F) (u := u) (v := v)), folL, (trimL_pol (folL_rng hp)).2]
  refine sm_mod fun k hk => ?_
  rw [pol_co, tab_get _ hk, Int.emod_emod, mm_l]
/-- what is answered at z, times u, times the polynomial at z -/
theorem ans_follows (hp : 2 ≤ p) {z : Int} (hu : u.length = n) (hw : w.length = n) (hk : Kil p n (atF n xs) (pol p F) (atV w)) (h : timesL p n n (shL p n z xs) w = v) : dotZ u w % p * hor p z F.reverse % p = hor p z (folL p n xs F u v).reverse := by
  have hkil := hk.at_ (pol_low F)
  have hkil2 : ∀ i, i < n → doF n (atF n xs) F.length (fun k => F.getD k 0) (atV w) i % p = 0 := fun i hi => by rw [← doF_pol (p := p) F (atF n xs) (atV w) i hi]; exact hkil i hi
  have := ans_fol (u := atV u) (sh_eqv h) hkil2
  rw [folL_hor hp, ← this, hor_ev, mm_l, mm_r, dotZ_sm u w (by rw [hu, hw]), hu]
  rfl
/-- where the polynomial makes 0 of v and isn't 0 at z there is an answer -/
theorem ans_has (ok : MatOk p n n xs) (hf : Fld p) {z : Int} (hl : v.length = n) (hr : Rng p v) (hk : Kil p n (atF n xs) (pol p F) (atV v)) (h0 : hor p z F.reverse ≠ 0) : ∃ w, IsX p n n (shL p n z xs) v w := by
  have hp := (rightB_true ok.hp).1
  have hkil := hk.at_ (pol_low F)
  obtain ⟨w, hw⟩ := off_has (hf.has hp) hkil (z := z) (by rw [ev_pol]; exact h0)
  have e : Eqv p n (offF n (atF n xs) z (atV (tab n w))) (atV v) := fun i hi => by
    rw [← hw i hi]
    have : mapF n (atF n xs) (atV (tab n w)) i = mapF n (atF n xs) w i := sm_congr fun k hk => by rw [show atV (tab n w) k = w k from tab_get _ hk]
    show (z * (tab n w).getD i 0 - mapF n (atF n xs) (atV (tab n w)) i) % p = _
    rw [this, tab_get _ hi]; rfl
  exact IsX.of_times (shL_ok ok z) hf (eqv_sh hr hl e)
/-- where all have an answer the determinant isn't 0 -/
theorem det_of_all (ok : MatOk p n n xs) (hf : Fld p) (h : ∀ b : List Int, b.length = n → Rng p b → ∃ x, IsX p n n xs b x) : detF n (atF n xs) % p ≠ 0 := by
  have hp := (rightB_true ok.hp).1
  have ht := takeL_ok (m := n) (n := n) hp hf ok.hx
  rw [ne_eq, det_rank hp hf ok.hx]
  intro hr
  have hlt : (takeL p n n xs).U.length < n := by have := ht.le; omega
  have hnd : (takeL p n n xs).rows.Nodup := by
    unfold List.Nodup
    rw [List.pairwise_iff_getElem]
    intro i k hi hk hik e
    have := ht.inc i k hik hk
    simp only [List.getD, List.getElem?_eq_getElem hi, List.getElem?_eq_getElem hk, Option.getD_some] at this
    omega
  have hfr : freeC n (takeL p n n xs).rows < n := (freeC_lt hnd fun c hc => ht.rows_lt hc).2 (by rw [ht.lr]; exact hlt)
  obtain ⟨y, hy⟩ := IsY.of ok hf hfr (freeC_not hfr)
  obtain ⟨x, hx⟩ := h (unitL n (freeC n (takeL p n n xs).rows)) (tab_len _ _) (tab_rng fun _ _ => by split <;> omega)
  have e := hx.none hy
  have e2 : dotF n (atV y) (atV (unitL n (freeC n (takeL p n n xs).rows))) = atV y (freeC n (takeL p n n xs).rows) := by
    unfold dotF
    rw [sm_congr (g := fun k => if k = freeC n (takeL p n n xs).rows then atV y k else 0) fun k hk => by
      rw [show atV (unitL n (freeC n (takeL p n n xs).rows)) k = if k = freeC n (takeL p n n xs).rows then 1 else 0 from tab_get _ hk]
      split <;> simp, sm_single (fun k => atV y k) hfr]
  rw [e2, show atV y (freeC n (takeL p n n xs).rows) = 1 from hy.own, mod_small (by omega) (by omega)] at e
  omega
theorem all_of_det (ok : MatOk p n n xs) (hf : Fld p) (h : detF n (atF n xs) % p ≠ 0) {b : List Int} (hb : b.length = n) (hr : Rng p b) : ∃ x, IsX p n n xs b x := by
  have hp := (rightB_true ok.hp).1
  have ht := takeL_ok (m := n) (n := n) hp hf ok.hx
  have hrk : (takeL p n n xs).U.length = n := Classical.byContradiction fun e => h ((det_rank hp hf ok.hx).2 e)
  have hrows := inc_id (l := (takeL p n n xs).rows) (n := n) (by rw [ht.lr, hrk]) (fun i j => ht.inc i j) (fun j hj => ht.low j hj)
  refine IsX.or ok hf hb hr fun i y hi hc _ => absurd ?_ hc
  have hil : i < (takeL p n n xs).rows.length := by rw [ht.lr, hrk]; exact hi
  have := hrows i hi
  rw [List.getD, List.getElem?_eq_getElem hil] at this
  rw [← this]
  exact List.getElem_mem hil
/-- where the matrix keeps a direction its own polynomial is 0 -/
theorem kept_root (ok : MatOk p n n xs) (hf : Fld p) (hm : MinL p n xs f) {z : Int} (h : detF n (atF n (shL p n z xs)) % p = 0) : hor p z f.reverse = 0 := by
  apply Classical.byContradiction
  intro h0
  exact det_of_all (shL_ok ok z) hf (fun b hb hr => ans_has ok hf hb hr (hm.all (atV b)) h0) h
end Go.Proofs.YtijpeepdedfhoaaGreat
/- Package own: lessFrom. -/
namespace Go.Proofs.YtijpeepdedfhoaaGreat
open Go.RowKit Go.Maps

set_option maxRecDepth 100000 in
set_option maxHeartbeats 1000000 in
theorem owLess (p z : Int) (n : Nat) (v : Value) (xs : List Int) (w : World) (ok : MatOk p n n xs) (hz0 : 0 ≤ z) (hz1 : z < p) (hv : Ints .u64 w v xs) :
    Calls Tryz.prog 51 #[.int .u64 p, .int .u64 z, matV n n v] w (RetM n n (shL p n z xs) w) := by
  have hp2 := rightB_true ok.hp
  have hn := ok.hn
  have hnn : n * n ≤ 4096 := Nat.mul_le_mul hn.2 hn.2
  have hpos : 0 < n * n := Nat.mul_pos hn.1 hn.1
  obtain ⟨a, cap, rfl, k1, k2, k3⟩ := hv
  rw [ok.hl] at k1 k3 ⊢
  obtain ⟨N, hN⟩ : ∃ N, n * n = N := ⟨_, rfl⟩
  rw [hN] at hnn hpos k1 k3 ⊢
  have HN := hid hN
  clear hN
  obtain ⟨b, off, rfl, hb, hc⟩ := k3 hpos
  have HC := hid hc
  clear k3 hc
  unfold matV
  have hA := hid (Blk.new w 25 #[.int .i64 (n : Int), .int .i64 (n : Int), .slice (some ⟨b, off, none⟩) N cap])
  have hZ := hid (Blk.new (w.alloc (.cells #[.int .i64 (n : Int), .int .i64 (n : Int), .slice (some ⟨b, off, none⟩) N cap] 25)) 25 #[.int .i64 0, .int .i64 0, .slice none 0 0])
  have hmk := make_ints (P := Tryz.prog) 23 22 .u64 8 (by omega) (by kernel_rfl) (by kernel_rfl) N N (Nat.le_refl _) (by omega)
  obtain ⟨c0, c1, c2⟩ := (hA.out.ext ((Ext.refl _).alloc (.cells #[.int .i64 0, .int .i64 0, .slice none 0 0] 25))).at3
  have M2 := hid fun (x y r : Int) (W : World) (h1 : 0 ≤ x) (h2 : x < p) (h3 : 0 ≤ y) (h4 : y < p) (h : (x - y) % p = r) => sub_as p x y r W ok.hp h1 h2 h3 h4 h
  have HR := hid ok.hx
  have HL := hid ok.hl
  have HG := hid fun (i : Nat) (hi : i < N) => (show (shL p n z xs).getD i 0 = ((if i / n = i % n then z else 0) - xs.getD i 0) % p by
    rw [← HN.out] at hi
    have h1 : i / n < n := Nat.div_lt_of_lt_mul hi
    have h2 : i % n < n := Nat.mod_lt _ (by omega)
    have h3 := grid_get (r := n) (c := n) (fun i k => ((if i = k then z else 0) - xs.getD (i * n + k) 0) % p) h1 h2
    have h4 : i / n * n + i % n = i := by rw [Nat.mul_comm]; exact Nat.div_add_mod i n
    unfold shL
    rw [h4] at h3
    rw [h3])
  have HLs := hid (show (shL p n z xs).length = N by rw [← HN.out]; exact grid_len _ _ _)
  obtain ⟨Fs, hFs⟩ : ∃ Fs, shL p n z xs = Fs := ⟨_, rfl⟩
  rw [hFs] at HG HLs ⊢
  clear hFs ok
  go_enter Tryz.func51, Tryz.ntmps51
  go_upto_region 1 with fail
  go_cut [7] from 11 to 19 (fun q w' => ∃ L g : Nat, q = .pointer (some ⟨L, 0, none⟩) ∧ Blk w' L 25 #[.int .i64 (n : Int), .int .i64 (n : Int), .slice (some ⟨g, 0, none⟩) N N] ∧ WRow w' g 0 (List.replicate N 0) ∧ L ≠ g ∧ w.heap.size + 1 + 1 ≤ L ∧ w.heap.size + 1 + 1 ≤ g ∧ Ext ((w.alloc (.cells #[.int .i64 (n : Int), .int .i64 (n : Int), .slice (some ⟨b, off, none⟩) N cap] 25)).alloc (.cells #[.int .i64 0, .int .i64 0, .slice none 0 0] 25)) w')
  case first =>
    go_region
    all_goals
      go_wp2_with fail
      go_meet
      case rel =>
        first
          | exact ⟨w.heap.size + 1 + 1 + 1, w.heap.size + 1 + 1, rfl, (Blk.at_ (by simp)).ext (Ext.refl _).drew, (WRow.made (by simp)).ext (((Ext.refl _).alloc _).drew), by omega, by omega, by omega, (((Ext.refl _).alloc _).alloc _).drew⟩
          | exact ⟨w.heap.size + 1 + 1, w.heap.size + 1 + 1 + 1, rfl, (Blk.at_ (by simp)).ext (((Ext.refl _).alloc _).drew), (WRow.made (by simp)).ext (Ext.refl _).drew, by omega, by omega, by omega, (((Ext.refl _).alloc _).alloc _).drew⟩
  case rest =>
    obtain ⟨L, g, rfl, hBL, hrow, hne, hLl, hGl, hxc⟩ := hcut
    rename World => wc
    obtain ⟨wz, hwz⟩ : ∃ wz, (w.alloc (.cells #[.int .i64 (n : Int), .int .i64 (n : Int), .slice (some ⟨b, off, none⟩) N cap] 25)).alloc (.cells #[.int .i64 0, .int .i64 0, .slice none 0 0] 25) = wz := ⟨_, rfl⟩
    have hxz := hid (show Ext w wz from hwz ▸ ((Ext.refl w).alloc _).alloc _)
    have hsz := hid (show wz.heap.size = w.heap.size + 1 + 1 from by rw [← hwz]; simp)
    have hBA := hid (show Blk wz w.heap.size 25 #[.int .i64 (n : Int), .int .i64 (n : Int), .slice (some ⟨b, off, none⟩) N cap] from hwz ▸ hA.out.ext ((Ext.refl _).alloc _))
    have hBZ := hid (show Blk wz (w.heap.size + 1) 25 #[.int .i64 0, .int .i64 0, .slice none 0 0] from by rw [← alloc_size w (.cells #[.int .i64 (n : Int), .int .i64 (n : Int), .slice (some ⟨b, off, none⟩) N cap] 25), ← hwz]; exact hZ.out)
    rw [hwz] at hxc
    have HU := hid (⟨hBL, hrow, List.length_replicate, hxc, by rw [hsz.out]; exact hGl, by rw [hsz.out]; exact hLl, fun e => hne e.symm⟩ : Und wz wc L g N (n : Int) (n : Int) (List.replicate N 0))
    clear hwz hBL hrow hxc hA hZ c0 c1 c2
    obtain ⟨c0, c1, c2⟩ := (hBA.out.ext HU.out.ext).at3
    go_wp2_with fail
    clear c0 c1 c2
    go_loopw [23] (fun iv wr => ∃ (i : Nat) (l : List Int), iv = .int .i64 i ∧ i ≤ N ∧ Hid (Und wz wr L g N (n : Int) (n : Int) l) ∧ Hid (∀ t, t < N → l.getD t 0 = if t < i then Fs.getD t 0 else 0)) (fun iv _ => N - (intOf iv).toNat)
    case atStart => exact ⟨0, _, rfl, Nat.zero_le _, HU, hid fun t ht => by rw [if_neg (by omega), replicate_get]⟩
    case round =>
      clear HU
      obtain ⟨i, l, rfl, hi, HU, hl⟩ := hrel
      rename World => wr
      by_cases hlt : i < N
      · have gx := ((hxz.out.trans HU.out.ext).cells _ _ hb).trans (HC.out i hlt)
        obtain ⟨x, ex⟩ : ∃ x, xs.getD i 0 = x := ⟨_, rfl⟩
        rw [ex] at gx
        have hxr : 0 ≤ x ∧ x < p := by rw [← ex]; exact HR.out.getD hp2.1 i
        obtain ⟨D, eD⟩ : ∃ D, i / n = D := ⟨_, rfl⟩
        obtain ⟨M, eM⟩ : ∃ M, i % n = M := ⟨_, rfl⟩
        have tD : ((i : Int)).tdiv (n : Int) = (D : Int) := by rw [Int.tdiv_eq_ediv_of_nonneg (by omega), ← eD]; rfl
        have tM : ((i : Int)).tmod (n : Int) = (M : Int) := by rw [Int.tmod_eq_emod_of_nonneg (by omega), ← eM]; rfl
        have bD : D ≤ 4096 := by rw [← eD]; exact Nat.le_trans (Nat.div_le_self _ _) (by omega)
        have bM : M ≤ 4096 := by rw [← eM]; exact Nat.le_trans (Nat.mod_le _ _) (by omega)
        have n0 : ((n : Int) == 0) = false := by simp; omega
        obtain ⟨q, eq⟩ : ∃ q, Fs.getD i 0 = q := ⟨_, rfl⟩
        have hq := HG.out i hlt
        rw [eq, ex, eD, eM] at hq
        have Eq := hid eq
        have hnx := hid (show ∀ t, t < N → (l.set i q).getD t 0 = if t < i + 1 then Fs.getD t 0 else 0 from fun t ht => by
          rw [set_get l _ _ q (by rw [HU.out.len]; exact hlt)]
          by_cases e : i = t
          · subst e; rw [if_pos rfl, if_pos (by omega), Eq.out]
          · rw [if_neg e, hl.out t ht]
            by_cases e2 : t < i
            · rw [if_pos e2, if_pos (by omega)]
            · rw [if_neg e2, if_neg (by omega)])
        obtain ⟨c0, c1, c2⟩ := (hBA.out.ext HU.out.ext).at3
        obtain ⟨o0, o1, o2⟩ := HU.out.box.at3
        obtain ⟨gt, ft⟩ := HU.out.at_ hlt
        have i1 : (i : Int) < (N : Int) := by omega
        have i0 : (0 : Int) ≤ (i : Int) := by omega
        by_cases hDM : D = M
        · rw [if_pos hDM] at hq
          have b1 : ((D : Int) == (M : Int)) = true := by simp [hDM]
          have CS := hid fun (W : World) => M2.out z x q W hz0 hz1 hxr.1 hxr.2 hq.symm
          clear ex eD eM eq hq hxr hDM
          go_wp2_with fail
          go_quiet (fail)
          go_wp2_with fail
          go_region_law (go_simp; go_at_call 89; refine (CS.out _).mono ?_; rintro _ w5 ⟨rfl, x5⟩
                         have y5 : Ext wr w5 := Ext.trans (by repeat (first | exact Ext.refl _ | assumption | refine Ext.drew ?_ | refine Ext.drewN ?_ _ | refine Ext.alloc ?_ _ | refine Ext.trans ?_ (by assumption))) x5
                         have HU5 := hid (HU.out.ext' y5); obtain ⟨gt5, ft5⟩ := HU5.out.at_ hlt; obtain ⟨r0, r1, r2⟩ := HU5.out.box.at3)
          all_goals
            have HP := hid (HU5.out.put hlt q)
            go_wp2_with fail
            go_roundw
            case rel => exact ⟨i + 1, l.set i q, by go_num, by omega, HP, hnx⟩
            case measure => simp [intOf]; omega
        · rw [if_neg hDM] at hq
          have b1 : ((D : Int) == (M : Int)) = false := by simp; omega
          have CS := hid fun (W : World) => M2.out 0 x q W (by omega) (by omega) hxr.1 hxr.2 hq.symm
          clear ex eD eM eq hq hxr hDM
          go_wp2_with fail
          go_quiet (fail)
          go_wp2_with fail
          go_region_law (go_simp; go_at_call 89; refine (CS.out _).mono ?_; rintro _ w5 ⟨rfl, x5⟩
                         have y5 : Ext wr w5 := Ext.trans (by repeat (first | exact Ext.refl _ | assumption | refine Ext.drew ?_ | refine Ext.drewN ?_ _ | refine Ext.alloc ?_ _ | refine Ext.trans ?_ (by assumption))) x5
                         have HU5 := hid (HU.out.ext' y5); obtain ⟨gt5, ft5⟩ := HU5.out.at_ hlt; obtain ⟨r0, r1, r2⟩ := HU5.out.box.at3)
          all_goals
            have HP := hid (HU5.out.put hlt q)
            go_wp2_with fail
            go_roundw
            case rel => exact ⟨i + 1, l.set i q, by go_num, by omega, HP, hnx⟩
            case measure => simp [intOf]; omega
      · obtain rfl : N = i := by omega
        have hRr := hBZ.out.ext HU.out.ext
        obtain ⟨o0, o1, o2⟩ := HU.out.box.at3
        obtain ⟨r0, r1, r2⟩ := hRr.at3
        have f0 := hRr.frozen 0
        have f1 := hRr.frozen 1
        have f2 := hRr.frozen 2
        have FF := hid (HU.out.fin hRr (by rw [hsz.out]; omega) (hxz.out.trans HU.out.ext) (by omega) (by omega))
        clear hRr
        go_wp2_with fail
        refine bodyPost_ret (results_cell_row rfl _ _ (w.heap.size + 1) 25 _ (0, 0) _ rfl FF.out.1 Tryz.underlying25 rfl (by kernel_rfl)) rfl ?_
        have e : l = Fs := list_ext (by rw [HU.out.len, HLs.out]) fun t ht => by
          rw [HU.out.len] at ht
          rw [hl.out t ht, if_pos ht]
        rw [← e]
        exact ⟨_, rfl, FF.out.2.1, FF.out.2.2⟩
end Go.Proofs.YtijpeepdedfhoaaGreat
/- Claims of a matrix's own polynomial: at how few places a wrong one passes, how few vectors die by it, and the turned matrix (in plain Lean; nothing of a program). -/
namespace Go.Proofs.YtijpeepdedfhoaaGreat
open Go.RowKit
variable {p : Int} {n : Nat} {xs F H f U V : List Int}

/-- a claim that has the shape passes at at most 3 n places, where the matrix keeps a direction counted in, or its polynomial divides the matrix's own -/
theorem few_claim (ok : MatOk p n n xs) (hf : Fld p) (hm : MinL p n xs f) (lF : F.length ≤ n + 1) (lH : H.length ≤ n) (lU : U.length = n) {S T : Ser p} (hS : S.poly) (hT : T.poly) (hb : S * pol p F + T * pol p H = 1) (hno : ¬ ∃ q : Ser p, q.poly ∧ pol p f = q * pol p F)
    (P : Nat → Bool) (N : Nat) (hN : (N : Int) ≤ p)
    (hP : ∀ k, k < N → P k = true → detF n (atF n (shL p n k xs)) % p = 0 ∨ ∃ w : List Int, w.length = n ∧ timesL p n n (shL p n k xs) w = V ∧ dotZ U w % p * hor p k F.reverse % p = hor p k H.reverse) : cntZ P N ≤ 3 * n := by
  have hp := (rightB_true ok.hp).1
  have hi := hf.has hp
  have lf : f.length ≤ n + 1 := IsOwn.len hi hm
  have lh : (folL p n xs f U V).length ≤ n := by have := folL_len (p := p) (n := n) (xs := xs) (F := f) (u := U) (v := V); omega
  have f0 : pol p f ≠ 0 := hm.isp.ne hm.ne
  refine claim_few hi (by have := ok.hn; omega) ((pol_low F).mono lF) ((pol_low H).mono lH) ((pol_low f).mono lf) ((pol_low (folL p n xs f U V)).mono lh) f0 hS hT hb hno P N hN fun k hk hPk => ?_
  have e1 := ev_pol_le (p := p) (k : Int) lF
  have e2 := ev_pol_le (p := p) (k : Int) lH
  have e3 := ev_pol_le (p := p) (k : Int) lf
  have e4 := ev_pol_le (p := p) (k : Int) lh
  rcases hP k hk hPk with h | ⟨w, lw, h1, h2⟩
  · left
    rw [e3, kept_root ok hf hm h]
  · right
    have h3 := ans_follows hp lU lw (hm.all (atV w)) h1
    rw [Int.mul_emod, e1, e4, Int.mul_emod (evF (n + 1) (pol p f).co k), e3, e2, ← h2, ← h3, mm_r, mm_r]
    congr 1
    grind

/-- the matrix that a polynomial of the matrix is -/
def polyM (p : Int) (n : Nat) (xs F : List Int) : List Int := grid n n fun i k => (pdoL p n xs F (unitL n k)).getD i 0
theorem polyM_rng (hp : 2 ≤ p) : Rng p (polyM p n xs F) := grid_rng fun i k _ _ => (pdoL_rng hp F (unitL n k)).getD hp i
theorem polyM_app (x : List Int) {i : Nat} (hi : i < n) : appF n (rowOf n (polyM p n xs F)) (atV x) i % p = (pdoL p n xs F x).getD i 0 := by
  rw [pdoL_get hi]
  have e1 : appF n (rowOf n (polyM p n xs F)) (atV x) i % p = (sm n fun k => atV x k * doF n (atF n xs) F.length (fun k => F.getD k 0) (uniF k) i) % p := sm_mod fun k hk => by
    rw [show (rowOf n (polyM p n xs F) i).getD k 0 = _ from tab_get _ hk, polyM, grid_get _ hi hk, pdoL_get hi, mm_l, Int.mul_comm (atV x k), Int.mul_emod, do_mod (unitL_at (n := n) (i := k)) (fun _ _ => rfl) i hi, ← Int.mul_emod]
  rw [e1]
  have e2 := congrFun (do_sum (A := atF n xs) (n := n) F.length (fun k => F.getD k 0) n (atV x) uniF) i
  rw [← e2]
  refine do_mod (fun j hj => ?_) (fun _ _ => rfl) i hi
  refine congrArg (· % p) ?_
  rw [sm_congr (g := fun k => if k = j then atV x k else 0) fun k _ => by
    unfold uniF
    by_cases e : j = k
    · subst e; simp
    · rw [if_neg e, if_neg (fun h => e h.symm)]; simp, sm_single (fun k => atV x k) hj]
/-- of how many vectors a polynomial of the matrix makes 0 -/
theorem dies_ker {P : Nat} (x : List Int) : decide (pdoL (P : Int) n xs F x = List.replicate n 0) = kerB P n n (rowOf n (polyM (P : Int) n xs F)) x := by
  unfold kerB
  rw [Bool.eq_iff_iff, decide_eq_true_iff, decide_eq_true_iff]
  constructor
  · intro h i hi
    rw [polyM_app x hi, h, replicate_get]
  · intro h
    refine list_ext (by rw [pdoL_len, List.length_replicate]) fun i hi => ?_
    rw [pdoL_len] at hi
    rw [← polyM_app x hi, h i hi, replicate_get]
theorem dies_all {P : Nat} (hm : MinL (P : Int) n xs f) (hd : ∃ q : Ser (P : Int), q.poly ∧ pol (P : Int) F = q * pol (P : Int) f) (x : List Int) : pdoL (P : Int) n xs F x = List.replicate n 0 := by
  obtain ⟨q, hq, e⟩ := hd
  rw [pdoL_kil, e]
  exact (hm.all (atV x)).mul hq
theorem dies_part {P : Nat} (ok : MatOk (P : Int) n n xs) (hf : Fld (P : Int)) (hm : MinL (P : Int) n xs f) (hno : ¬ ∃ q : Ser (P : Int), q.poly ∧ pol (P : Int) F = q * pol (P : Int) f) : cntV P n (fun x => decide (pdoL (P : Int) n xs F x = List.replicate n 0)) ≤ P ^ n / P := by
  have hp := (rightB_true ok.hp).1
  rw [cntV_congr fun x _ _ => dies_ker x]
  refine ker_part (hf.has hp) (takeL_ok (m := n) (n := n) hp hf (polyM_rng hp)) ?_
  apply Classical.byContradiction
  intro hn
  refine hno ((IsMin.iff hm (pol_poly F)).1 fun k hk => ?_)
  have h0 : pdoL (P : Int) n xs F (unitL n k) = List.replicate n 0 := list_ext (by rw [pdoL_len, List.length_replicate]) fun i hi => by
    rw [pdoL_len] at hi
    rw [replicate_get]
    apply Classical.byContradiction
    intro h1
    refine hn ⟨i, k, hi, hk, ?_⟩
    rw [show (rowOf n (polyM (P : Int) n xs F) i).getD k 0 = _ from tab_get _ hk, polyM, grid_get _ hi hk]
    have h2 := (pdoL_rng (n := n) (xs := xs) hp F (unitL n k)).getD hp i
    rwa [mod_small h2.1 h2.2]
  exact (pdoL_kil.1 h0).congr unitL_at.symm

/-! ### the turned matrix -/
/-- one is the other, turned -/
def Trn (n : Nat) (A B : Nat → RowF) : Prop := ∀ i k, i < n → k < n → B i k = A k i
theorem Trn.symm {A B : Nat → RowF} (h : Trn n A B) : Trn n B A := fun i k hi hk => (h k i hk hi).symm
theorem trn_map {A B : Nat → RowF} (h : Trn n A B) (u v : RowF) : (sm n fun i => u i * mapF n A v i) = sm n fun i => mapF n B u i * v i := by
  unfold mapF
  rw [sm_congr (g := fun i => sm n fun k => u i * (A i k * v k)) fun i _ => by rw [sm_mul], sm_comm]
  refine sm_congr fun k hk => ?_
  rw [← sm_mul_r]
  exact sm_congr fun i hi => by rw [h k i hk hi]; grind
theorem trn_it {A B : Nat → RowF} (h : Trn n A B) (u v : RowF) : ∀ k, (sm n fun i => u i * itF n A k v i) = sm n fun i => itF n B k u i * v i
  | 0 => rfl
  | k + 1 => by
    show (sm n fun i => u i * mapF n A (itF n A k v) i) = _
    rw [trn_map h, trn_it h (mapF n B u) v k, ← itF_succ]
theorem trn_do {A B : Nat → RowF} (h : Trn n A B) (u v : RowF) (d : Nat) (f : Nat → Int) : (sm n fun i => u i * doF n A d f v i) = sm n fun i => doF n B d f u i * v i := by
  unfold doF
  rw [sm_congr (g := fun i => sm d fun k => f k * (u i * itF n A k v i)) fun i _ => by rw [← sm_mul]; exact sm_congr fun k _ => by grind, sm_comm]
  rw [sm_congr (g := fun k => sm n fun i => f k * (itF n B k u i * v i)) fun k _ => by rw [sm_mul, sm_mul, trn_it h], sm_comm]
  refine sm_congr fun i _ => ?_
  rw [← sm_mul_r]
  exact sm_congr fun k _ => by grind
theorem trn_dot {A B : Nat → RowF} (h : Trn n A B) (u v : RowF) (k : Nat) : dotS n B v u k = dotS n A u v k := by
  unfold dotS
  rw [trn_it h]
  exact sm_congr fun i _ => Int.mul_comm _ _
theorem trn_kil {A B : Nat → RowF} (h : Trn n A B) {f : Ser p} (hk : ∀ v, (∃ i, i < n ∧ v = uniF i) → Kil p n A f v) : ∀ v, (∃ i, i < n ∧ v = uniF i) → Kil p n B f v := by
  rintro _ ⟨j, hj, rfl⟩
  obtain ⟨d, hd⟩ := (hk _ ⟨j, hj, rfl⟩).poly
  refine ⟨d, hd, fun i hi => ?_⟩
  have e := trn_do h.symm (uniF i) (uniF j) d f.co
  have pick : ∀ (a : Nat) (w : RowF), a < n → (sm n fun k => uniF a k * w k) = w a := fun a w ha => by
    rw [sm_congr (g := fun k => if k = a then w k else 0) fun k _ => by unfold uniF; split <;> simp, sm_single w ha]
  rw [pick i _ hi, sm_congr (g := fun k => uniF j k * doF n A d f.co (uniF i) k) fun k _ => Int.mul_comm _ _, pick j _ hj] at e
  rw [e]
  exact (hk _ ⟨i, hi, rfl⟩).at_ hd j hj
theorem trn_min {A B : Nat → RowF} (h : Trn n A B) {g : List Int} (hm : IsMin p n A g) : IsMin p n B g :=
  ⟨hm.isp, hm.ne, hm.mon, trn_kil h hm.kil, fun f hf hk => hm.dvd f hf (trn_kil h.symm hk)⟩
theorem trn_turn (xs : List Int) : Trn n (atF n xs) (atF n (turnL n n xs)) := fun i k hi hk => by
  show (turnL n n xs).getD (i * n + k) 0 = _
  rw [turnL, grid_get _ hi hk]; rfl
theorem MinL.turn (hm : MinL p n xs f) : MinL p n (turnL n n xs) f := trn_min (trn_turn xs) hm
theorem folL_turn : folL p n (turnL n n xs) F V U = folL p n xs F U V := by
  unfold folL
  rw [show dotS n (atF n (turnL n n xs)) (atV V) (atV U) = dotS n (atF n xs) (atV U) (atV V) from funext fun k => trn_dot (trn_turn xs) (atV U) (atV V) k]
end Go.Proofs.YtijpeepdedfhoaaGreat
