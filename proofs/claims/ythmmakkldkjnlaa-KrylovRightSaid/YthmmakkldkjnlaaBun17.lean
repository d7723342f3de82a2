/- What the texts Mx3, Pm1, Pm2, Cm1, Pm3 show, in one text. -/
import Derived.Test.YthmmakkldkjnlaaBun14
import Derived.Test.YthmmakkldkjnlaaBun13
import Derived.Test.YthmmakkldkjnlaaBun04
import Derived.Test.YthmmakkldkjnlaaBun06
import Derived.Test.YthmmakkldkjnlaaBun07
import Derived.Test.YthmmakkldkjnlaaBun10
import Derived.Maps.AppendAt
/- Package matrix: matrices under way; Turn, Left. -/
namespace Go.Proofs.Ythmmakkldkjnlaa
open Go.RowKit Go.Maps

/-- a matrix under way: its box, and its cells -/
structure Und (w0 w : World) (h g Q : Nat) (r c : Int) (l : List Int) : Prop where
  box : Blk w h 25 #[.int .i64 r, .int .i64 c, .slice (some ⟨g, 0, none⟩) Q Q]
  row : WRow w g 0 l
  len : l.length = Q
  ext : Ext w0 w
  hg : w0.heap.size ≤ g
  hh : w0.heap.size ≤ h
  ne : g ≠ h
theorem Und.ext' {w0 w w' : World} {h g Q : Nat} {r c : Int} {l : List Int} (b : Und w0 w h g Q r c l) (y : Ext w w') : Und w0 w' h g Q r c l :=
  ⟨b.box.ext y, b.row.ext y, b.len, b.ext.trans y, b.hg, b.hh, b.ne⟩
theorem Und.put {w0 w : World} {h g Q : Nat} {r c : Int} {l : List Int} (b : Und w0 w h g Q r c l) {i : Nat} (hi : i < Q) (x : Int) : Und w0 (w.setCell ⟨g, i, none⟩ (.int .u64 x)) h g Q r c (l.set i x) := by
  have hs := b.row.set_ (i := i) (by rw [b.len]; exact hi) x
  rw [Nat.zero_add] at hs
  exact ⟨b.box.grown (setCell_grown _ _ _) (fun e => b.ne (by injection e)), hs, by rw [List.length_set]; exact b.len, b.ext.setCell (p := ⟨g, i, none⟩) b.hg _, b.hg, b.hh, b.ne⟩
theorem Und.at_ {w0 w : World} {h g Q : Nat} {r c : Int} {l : List Int} (b : Und w0 w h g Q r c l) {i : Nat} (hi : i < Q) : w.cell? ⟨g, i, none⟩ = some (.int .u64 (l.getD i 0)) ∧ w.frozen? ⟨g, i, none⟩ = false := by
  have := b.row.2 i (by rw [b.len]; exact hi)
  rw [Nat.zero_add] at this
  exact this
theorem Und.start {w0 w : World} {g Q : Nat} {r c : Int} {l : List Int} (hg : w0.heap.size ≤ g) (hrow : WRow w g 0 l) (hl : l.length = Q) (x : Ext w0 w) :
    Und w0 (w.alloc (.cells #[.int .i64 r, .int .i64 c, .slice (some ⟨g, 0, none⟩) Q Q] 25)) w.heap.size g Q r c l :=
  ⟨Blk.new _ _ _, hrow.ext ((Ext.refl _).alloc _), hl, x.alloc _, hg, x.size, Nat.ne_of_lt hrow.1⟩
/-- the answer's box is told a matrix -/
theorem fin0 {w wv : World} {g : Nat} {x y z : Value} (hR : Blk w g 25 #[x, y, z]) (hv : Ext wv w) (hg : wv.heap.size ≤ g) (a b c : Value) :
    Blk (((w.setCell ⟨g, 0, none⟩ a).setCell ⟨g, 1, none⟩ b).setCell ⟨g, 2, none⟩ c) g 25 #[a, b, c] ∧ Ext wv (((w.setCell ⟨g, 0, none⟩ a).setCell ⟨g, 1, none⟩ b).setCell ⟨g, 2, none⟩ c) :=
  ⟨((hR.set_ 0 a).set_ 1 b).set_ 2 c, ((hv.setCell (p := ⟨g, 0, none⟩) hg a).setCell (p := ⟨g, 1, none⟩) hg b).setCell (p := ⟨g, 2, none⟩) hg c⟩
theorem Und.fin {w0 w wv : World} {h g Q G : Nat} {r c : Int} {l : List Int} (b : Und w0 w h g Q r c l) {x y z : Value} (hR : Blk w G 25 #[x, y, z]) (hG : G < w0.heap.size) (hv : Ext wv w) (hgv : wv.heap.size ≤ G) (hQ : Q ≤ 9223372036854775807) :
    Blk (((w.setCell ⟨G, 0, none⟩ (.int .i64 r)).setCell ⟨G, 1, none⟩ (.int .i64 c)).setCell ⟨G, 2, none⟩ (.slice (some ⟨g, 0, none⟩) Q Q)) G 25 #[.int .i64 r, .int .i64 c, .slice (some ⟨g, 0, none⟩) Q Q] ∧
    Ints .u64 (((w.setCell ⟨G, 0, none⟩ (.int .i64 r)).setCell ⟨G, 1, none⟩ (.int .i64 c)).setCell ⟨G, 2, none⟩ (.slice (some ⟨g, 0, none⟩) Q Q)) (.slice (some ⟨g, 0, none⟩) Q Q) l ∧
    Ext wv (((w.setCell ⟨G, 0, none⟩ (.int .i64 r)).setCell ⟨G, 1, none⟩ (.int .i64 c)).setCell ⟨G, 2, none⟩ (.slice (some ⟨g, 0, none⟩) Q Q)) := by
  have hne : g ≠ G := by have := b.hg; omega
  refine ⟨(fin0 hR hv hgv _ _ _).1, ?_, (fin0 hR hv hgv _ _ _).2⟩
  exact (((b.row.set_other hne).set_other hne).set_other hne).ints' b.len (Nat.le_refl _) hQ
theorem boxes2 (w : World) (t t' : TypeId) (A B : Array Value) :
    Blk ((w.alloc (.cells A t)).alloc (.cells B t')) w.heap.size t A ∧ Blk ((w.alloc (.cells A t)).alloc (.cells B t')) (w.heap.size + 1) t' B ∧ Ext w ((w.alloc (.cells A t)).alloc (.cells B t')) :=
  ⟨(Blk.new w t A).ext ((Ext.refl _).alloc _), Blk.at_ (by rw [alloc_size]), ((Ext.refl w).alloc _).alloc _⟩
theorem at_inj {c i k i' k' : Nat} (hk : k < c) (hk' : k' < c) (h : i * c + k = i' * c + k') : i = i' ∧ k = k' := by
  constructor
  · rw [← at_div hk (i := i), h, at_div hk']
  · rw [← at_mod hk (i := i), h, at_mod hk']
theorem put_at {l : List Int} {c j i a b : Nat} (x : Int) (hi : i < c) (hb : b < c) (hl : j * c + i < l.length) : (l.set (j * c + i) x).getD (a * c + b) 0 = if a = j ∧ b = i then x else l.getD (a * c + b) 0 := by
  rw [set_get l _ _ x hl]
  by_cases e : a = j ∧ b = i
  · rw [if_pos e, if_pos (by rw [e.1, e.2])]
  · rw [if_neg e, if_neg (fun h => e (by obtain ⟨h1, h2⟩ := at_inj hi hb h; exact ⟨h1.symm, h2.symm⟩))]

/-- what a call answers where something isn't right, instead of a matrix -/
def noMat : Value := .tuple #[.agg #[.int .i64 0, .int .i64 0, .slice none 0 0], .int .i64 1]
set_option maxHeartbeats 400000 in
theorem mxTurn_no (p r c : Int) (v : Value) (xs : List Int) (w : World) (h0 : 0 ≤ p) (h1 : p ≤ 18446744073709551615) (hv : Ints .u64 w v xs) (hx : U64s xs) (h : matB p r c xs = false) :
    Calls Try.prog 31 #[.int .u64 p, matV r c v] w (Ret noMat w) := by
  have C1 := hid fun (W : World) (hW : Ext w W) => mxRight p r c v xs W h0 h1 (hv.ext hW) hx
  rw [h] at C1
  unfold matV at C1
  unfold matV noMat
  have hb2 := hid (boxes2 w 25 25 #[.int .i64 r, .int .i64 c, v] #[.int .i64 0, .int .i64 0, .slice none 0 0])
  obtain ⟨a, cap, rfl, k1, k2, k3⟩ := hv
  clear k3 hx h
  go_enter Try.func31, Try.ntmps31
  go_wp2_with (go_at_call 48; refine (C1.out _ (by repeat (first | exact Ext.refl _ | assumption | refine Ext.drew ?_ | refine Ext.drewN ?_ _ | refine Ext.alloc ?_ _ | refine Ext.trans ?_ (by assumption)))).mono ?_; rintro _ w1 ⟨rfl, x1⟩; have HR := hid (hb2.out.2.1.ext x1); have HE := hid (hb2.out.2.2.trans x1); obtain ⟨b0, b1, b2⟩ := HR.out.at3; have f0 := HR.out.frozen 0; have f1 := HR.out.frozen 1; have f2 := HR.out.frozen 2)
  have F := fin0 HR.out HE.out (by omega) (.int .i64 0) (.int .i64 0) (.slice none 0 0)
  refine bodyPost_ret (results_cell_row_tmp rfl _ _ (w.heap.size + 1) 25 _ (0, 0) _ rfl F.1 Try.underlying25 rfl (by kernel_rfl)) rfl ?_
  exact ⟨rfl, F.2⟩

set_option maxRecDepth 100000 in
set_option maxHeartbeats 1000000 in
theorem mxTurn_yes (p : Int) (m n : Nat) (v : Value) (xs : List Int) (w : World) (ok : MatOk p m n xs) (hv : Ints .u64 w v xs) :
    Calls Try.prog 31 #[.int .u64 p, matV m n v] w (RetN n m (turnL m n xs) w) := by
  have hp2 := rightB_true ok.hp
  have C1 := hid fun (W : World) (hW : Ext w W) => mxRight p m n v xs W (by omega) (by omega) (hv.ext hW) ok.u64
  rw [ok.b] at C1
  have Ok := hid ok
  have hm := ok.hm; have hn := ok.hn
  obtain ⟨a, cap, rfl, k1, k2, k3⟩ := hv
  obtain ⟨b, off, rfl, hb, k4⟩ := k3 ok.pos
  have K := hid k4
  have hcap := hid fun (i : Nat) (h : i < m) => Nat.le_trans (ok.at_ h) k1
  clear k3 k4 ok
  obtain ⟨Q, hQ⟩ : ∃ Q, n * m = Q := ⟨_, rfl⟩
  have hQb : Q ≤ 4096 := by rw [← hQ]; exact Nat.mul_le_mul hn.2 hm.2
  have HN := hid fun W : World => mxNoughts n m W hn.2 hm.2
  rw [hQ] at HN
  have HQ := hid hQ
  clear hQ
  have hb2 := hid (boxes2 w 25 25 #[.int .i64 (m : Int), .int .i64 (n : Int), .slice (some ⟨b, off, none⟩) xs.length cap] #[.int .i64 0, .int .i64 0, .slice none 0 0])
  unfold matV at C1
  unfold matV
  go_enter Try.func31, Try.ntmps31
  go_wp2_with (go_at_call 48; refine (C1.out _ (by repeat (first | exact Ext.refl _ | assumption | refine Ext.drew ?_ | refine Ext.drewN ?_ _ | refine Ext.alloc ?_ _ | refine Ext.trans ?_ (by assumption)))).mono ?_; rintro _ w1 ⟨rfl, x1⟩; have HA := hid (hb2.out.1.ext x1); have HR := hid (hb2.out.2.1.ext x1); have HE := hid (hb2.out.2.2.trans x1); obtain ⟨b0, b1, b2⟩ := HA.out.at3)
  have hR1 := HR.out.lt
  refine (HN.out _).mono ?_
  rintro _ w2 ⟨g, rfl, hg, hrow, x2⟩
  have HU := hid (Und.start (Q := Q) (r := (n : Int)) (c := (m : Int)) hg hrow List.length_replicate x2)
  unfold matV
  have b3 := (HA.out.ext (x2.alloc (.cells #[.int .i64 (n : Int), .int .i64 (m : Int), .slice (some ⟨g, 0, none⟩) Q Q] 25))).at3
  clear b0 b1 b2
  obtain ⟨b0, b1, b2⟩ := b3
  go_wp2_with fail
  obtain ⟨h, hh⟩ : ∃ h, w2.heap.size = h := ⟨_, rfl⟩
  obtain ⟨w3, hw3⟩ : ∃ w3, w2.alloc (.cells #[.int .i64 (n : Int), .int .i64 (m : Int), .slice (some ⟨g, 0, none⟩) Q Q] 25) = w3 := ⟨_, rfl⟩
  rw [hw3, hh] at HU
  rw [hw3, hh]
  clear hh hw3 b0 b1 b2 hrow x2 hg
  obtain ⟨gR, hgR⟩ : ∃ gR, w.heap.size + 1 = gR := ⟨_, rfl⟩
  have hgw : w.heap.size ≤ gR := by omega
  rw [hgR] at HR hR1
  rw [hgR]
  obtain ⟨gA, hgA⟩ : ∃ gA, w.heap.size = gA := ⟨_, rfl⟩
  have hbA : b < gA := by omega
  rw [hgA] at HA
  rw [hgA]
  clear hgR hgA
  go_loopw [22] (fun iv wr => ∃ (i : Nat) (l : List Int), iv = .int .i64 i ∧ i ≤ m ∧ Hid (Und w1 wr h g Q n m l) ∧ Hid (∀ a b, a < n → b < i → l.getD (a * m + b) 0 = xs.getD (b * n + a) 0)) (fun iv _ => m - (intOf iv).toNat)
  case atStart => exact ⟨0, _, rfl, Nat.zero_le _, HU, hid (by omega)⟩
  case round =>
    clear HU
    obtain ⟨i, l, rfl, hi, HU, hl⟩ := hrel
    obtain ⟨b0, b1, b2⟩ := (HA.out.ext HU.out.ext).at3
    by_cases hlt : i < m
    · have hck := hcap.out i hlt
      have hcells := fun (j : Nat) (hj : j < n) => K.out (i * n + j) (by have := Ok.out.at_ hlt; omega)
      go_wp2_with fail
      refine (mxRow (m : Int) (n : Int) n i b off xs.length cap wr rfl hn (by omega) hck k2).mono ?_
      rintro _ w4 ⟨rfl, x4⟩
      simp only [← Nat.add_assoc] at hcells
      obtain ⟨o, ho⟩ : ∃ o, off + i * n = o := ⟨_, rfl⟩
      obtain ⟨cp, hcp⟩ : ∃ cp, cap - i * n = cp := ⟨_, rfl⟩
      rw [ho] at hcells
      rw [ho, hcp]
      have hcpn : n ≤ cp := by omega
      have hcpb : cp ≤ 9223372036854775807 := by omega
      have HC := hid hcells
      clear ho hcp hck hcells b0 b1 b2
      go_wp2_with fail
      go_loopw [29] (fun jv wr => ∃ (j : Nat) (l : List Int), jv = .int .i64 j ∧ j ≤ n ∧ Hid (Und w1 wr h g Q n m l) ∧ Hid (∀ a b, a < n → (b < i ∨ b = i ∧ a < j) → l.getD (a * m + b) 0 = xs.getD (b * n + a) 0)) (fun jv _ => n - (intOf jv).toNat)
      case atStart => exact ⟨0, l, rfl, Nat.zero_le _, hid (HU.out.ext' x4), hid fun a b ha hb => hl.out a b ha (by omega)⟩
      case round =>
        clear HU hl
        obtain ⟨j, l, rfl, hj, HU, hl⟩ := hrel
        rename World => wi
        by_cases hlj : j < n
        · have gx := ((HE.out.trans HU.out.ext).cells _ _ hb).trans (HC.out j hlj)
          obtain ⟨x, ex⟩ : ∃ x, xs.getD (i * n + j) 0 = x := ⟨_, rfl⟩
          rw [ex] at gx
          have Ex := hid ex
          clear ex
          obtain ⟨b0, b1, b2⟩ := (HA.out.ext HU.out.ext).at3
          obtain ⟨o0, o1, o2⟩ := HU.out.box.at3
          obtain ⟨q, hq⟩ : ∃ q, j * m = q := ⟨_, rfl⟩
          obtain ⟨t, ht⟩ : ∃ t, q + i = t := ⟨_, rfl⟩
          have htQ : t < Q := by rw [← ht, ← hq, ← HQ.out]; exact at_lt hlj hlt
          have hqi : (j : Int) * (m : Int) = (q : Int) := by rw [← hq]; push_cast; rfl
          have hti : (q : Int) + (i : Int) = (t : Int) := by omega
          have hqb : q ≤ t := by omega
          obtain ⟨gt, ft⟩ := HU.out.at_ htQ
          have Htq := hid (show j * m + i = t by omega)
          clear ht hq
          go_wp2_with fail
          go_roundw
          case rel =>
            refine ⟨j + 1, l.set t x, by go_num, by omega, hid (HU.out.put htQ x), hid fun a b ha hb => ?_⟩
            rw [← Htq.out, put_at x hlt (by omega) (by rw [Htq.out, HU.out.len]; exact htQ)]
            by_cases e : a = j ∧ b = i
            · rw [if_pos e, e.1, e.2]; exact Ex.out.symm
            · rw [if_neg e]; exact hl.out a b ha (by omega)
          case measure => simp [intOf]; omega
        · obtain rfl : n = j := by omega
          go_wp2_with fail
          go_roundw
          case rel => exact ⟨i + 1, l, by go_num, by omega, HU, hid fun a b ha hb => hl.out a b ha (by omega)⟩
          case measure => simp [intOf]; omega
    · obtain rfl : m = i := by omega
      obtain ⟨o0, o1, o2⟩ := HU.out.box.at3
      have hRr := HR.out.ext HU.out.ext
      obtain ⟨r0, r1, r2⟩ := hRr.at3
      have f0 := hRr.frozen 0
      have f1 := hRr.frozen 1
      have f2 := hRr.frozen 2
      have F := hid (HU.out.fin hRr hR1 (HE.out.trans HU.out.ext) hgw (by omega))
      clear hRr
      go_wp2_with fail
      refine bodyPost_ret (results_cell_row_tmp rfl _ _ gR 25 _ (0, 0) _ rfl F.out.1 Try.underlying25 rfl (by kernel_rfl)) rfl ?_
      have e : l = turnL m n xs := grid_of (by rw [HU.out.len, HQ.out]) fun a b ha hb => hl.out a b ha hb
      exact ⟨_, rfl, e ▸ F.out.2.1, F.out.2.2⟩
end Go.Proofs.Ythmmakkldkjnlaa
/- Package perm: sides, orders that are right, One. -/
namespace Go.Proofs.Ythmmakkldkjnlaa
open Go.RowKit Go.Maps

/-- rows without repetition, of numbers that are all below their number: an order -/
theorem Ord.of_nodup {n : Nat} {p : List Int} (hl : p.length = n) (hr : ∀ j, j < n → 0 ≤ p.getD j 0 ∧ p.getD j 0 < n) (hn : p.Nodup) : Ord n p := by
  have hp := nodup_sub (r := upL n) hn (fun x hx => by
    obtain ⟨j, hj, rfl⟩ := List.getElem_of_mem hx
    have := hr j (by omega)
    rw [List.getD, List.getElem?_eq_getElem hj] at this
    exact upL_mem.2 this) (by rw [upL_len]; omega)
  exact Ord.of_perm hp.symm
theorem mem_take_getD {p : List Int} {k j : Nat} (hj : j < k) (hk : k ≤ p.length) : p.getD j 0 ∈ p.take k := by
  have h : j < (p.take k).length := by rw [List.length_take]; omega
  have e : p.getD j 0 = (p.take k)[j] := by simp [List.getD, show j < p.length by omega]
  rw [e]; exact List.getElem_mem h
theorem nodup_take_succ {p : List Int} {k : Nat} (h : k < p.length) (hn : (p.take k).Nodup) (hx : p.getD k 0 ∉ p.take k) : (p.take (k + 1)).Nodup := by
  rw [take_snoc_getD h, List.nodup_append]
  exact ⟨hn, by simp, fun a ha b hb e => by
    have : b = p.getD k 0 := by simpa using hb
    subst e; subst this; exact hx ha⟩

/-- a block whose first so many cells are numbers -/
theorem Blk.ints {w : World} {g n : Nat} {t : TypeId} {cs : Array Value} {k : IntKind} {xs : List Int} (h : Blk w g t cs) (hl : xs.length = n) (hn : n ≤ 9223372036854775807) (hc : ∀ j, j < n → cs[j]? = some (.int k (xs.getD j 0))) : Ints k w (.slice (some ⟨g, 0, none⟩) n n) xs := by
  subst hl
  exact Ints.mk (Nat.le_refl _) hn h.lt fun j hj => by rw [Nat.zero_add, h.cell j]; exact hc j hj

end Go.Proofs.Ythmmakkldkjnlaa
/- Package perm: an order done to things of any kind; Then, Do. -/
namespace Go.Proofs.Ythmmakkldkjnlaa
open Go.RowKit Go.Maps

/-- in the world w the slice u reads as the values us -/
def Vals (w : World) (u : Value) (us : List Value) : Prop :=
  ∃ (a : Option Addr) (cap : Nat), u = .slice a us.length cap ∧ us.length ≤ cap ∧ cap ≤ 9223372036854775807 ∧
    (0 < us.length → ∃ b off, a = some ⟨b, off, none⟩ ∧ b < w.heap.size ∧ ∀ j x, us[j]? = some x → w.cell? ⟨b, off + j, none⟩ = some x)
theorem Vals.ext {w w' : World} {u : Value} {us : List Value} (h : Vals w u us) (he : Ext w w') : Vals w' u us := by
  obtain ⟨a, cap, h1, h2, h3, h4⟩ := h
  refine ⟨a, cap, h1, h2, h3, fun hp => ?_⟩
  obtain ⟨b, off, ha, hb, hc⟩ := h4 hp
  exact ⟨b, off, ha, Nat.lt_of_lt_of_le hb he.size, fun j x hj => (he.cells _ _ hb).trans (hc j x hj)⟩
theorem getD_some {α : Type} {l : List α} {j : Nat} {x : α} (d : α) (h : l[j]? = some x) : l.getD j d = x := by rw [List.getD, h]; rfl
theorem Ints.vals {k : IntKind} {w : World} {v : Value} {xs : List Int} (h : Ints k w v xs) : Vals w v (xs.map (Value.int k)) := by
  obtain ⟨a, cap, h1, h2, h3, h4⟩ := h
  refine ⟨a, cap, by rw [h1, List.length_map], by rw [List.length_map]; exact h2, h3, fun hp => ?_⟩
  rw [List.length_map] at hp
  obtain ⟨b, off, ha, hb, hc⟩ := h4 hp
  refine ⟨b, off, ha, hb, fun j x hj => ?_⟩
  rw [List.getElem?_map] at hj
  obtain ⟨y, hy, rfl⟩ := Option.map_eq_some_iff.1 hj
  rw [hc j (List.getElem?_eq_some_iff.1 hy).1, getD_some 0 hy]
theorem Vals.ints {k : IntKind} {w : World} {v : Value} {xs : List Int} (h : Vals w v (xs.map (Value.int k))) : Ints k w v xs := by
  obtain ⟨a, cap, h1, h2, h3, h4⟩ := h
  rw [List.length_map] at h1 h2 h4
  refine ⟨a, cap, h1, h2, h3, fun hp => ?_⟩
  obtain ⟨b, off, ha, hb, hc⟩ := h4 hp
  refine ⟨b, off, ha, hb, fun j hj => hc j _ ?_⟩
  simp [List.getD, hj]
/-- what an order does to things of any kind -/
def doG {α : Type} (d : α) (p : List Int) (x : List α) : List α := p.map fun k => x.getD k.toNat d
theorem doG_len {α : Type} (d : α) (p : List Int) (x : List α) : (doG d p x).length = p.length := by simp [doG]
theorem doG_get {α : Type} {d : α} {p : List Int} {x : List α} {k : Nat} (hk : k < p.length) : (doG d p x)[k]? = some (x.getD (p.getD k 0).toNat d) := by
  simp [doG, List.getD, hk]
/-- a block whose first so many cells are known -/
theorem Blk.vals {w : World} {g n : Nat} {t : TypeId} {cs : Array Value} {us : List Value} (h : Blk w g t cs) (hl : us.length = n) (hn : n ≤ 9223372036854775807) (hc : ∀ j, j < n → cs[j]? = us[j]?) : Vals w (.slice (some ⟨g, 0, none⟩) n n) us := by
  subst hl
  refine ⟨_, _, rfl, Nat.le_refl _, hn, fun _ => ⟨g, 0, rfl, h.lt, fun j x hj => ?_⟩⟩
  rw [Nat.zero_add, h.cell j, hc j (List.getElem?_eq_some_iff.1 hj).1]; exact hj
/-- things that a call answers, or that something isn't right -/
def RetVals (ok : Bool) (us : List Value) (w : World) (e : Ending) (w' : World) : Prop :=
  ∃ (v : Value) (l' : List Value) (ee : Int), e = .returned (.tuple #[v, .int .i64 ee]) ∧ Vals w' v l' ∧ ee = (if ok = true then 0 else 1) ∧ l' = (if ok = true then us else []) ∧ Ext w w'
theorem Vals.nil {w : World} : Vals w (.slice none 0 0) [] := ⟨none, 0, rfl, by simp, by omega, by simp⟩
theorem make_rows {P : Program} (t e : TypeId) (bytes : Nat) (hb : bytes ≤ 24) (ht : P.underlying t = some (.slice e)) (hi : (P.info? e).map (fun i => (i.zero, i.size, i.bytes)) = some (some (.slice none 0 0), 1, bytes))
    (n c : Nat) (hnc : n ≤ c) (hc : c ≤ 1000000) (w : World) :
    (Instr.makeSlice t (.int .i64 n) (.int .i64 c)).run P w = .ok (.slice (some ⟨w.heap.size, 0, none⟩) n c) (w.alloc (.cells (madeCells #[Value.slice none 0 0] c) e)) := by
  obtain ⟨i, h1, h2, h3, h4⟩ := info_parts hi
  have hbc : i.bytes * c ≤ 24 * c := Nat.mul_le_mul_right _ (by omega)
  have hbi : (i.bytes : Int) * (c : Int) ≤ 281474976710656 := by rw [← Int.natCast_mul]; omega
  have := run_make (P := P) w t e i _ ht h1 h2 .i64 .i64 n c (by omega) (by omega) hbi (by omega)
  rw [this, h3]
  simp [Value.cells]
/-- a slice, as a value -/
def slV (x : Option Addr × Nat × Nat) : Value := .slice x.1 x.2.1 x.2.2

theorem thenL_doG (p q : List Int) : doG 0 q p = thenL p q := rfl
theorem doL_doG (p x : List Int) : doG 0 p x = doL p x := rfl
end Go.Proofs.Ythmmakkldkjnlaa
/- Package cup: what a row is lessened by; the first number that isn't 0; rows of the call's own, apart from one another. -/
namespace Go.Proofs.Ythmmakkldkjnlaa
open Go.RowKit Go.Maps

theorem Ext.grownBy {w w' : World} (h : Ext w w') (row : Option Nat) : w.grownBy w' row := ⟨h.os, h.tape, h.output, h.size, fun k hk _ => h.block k hk⟩
theorem Ints.grown {k : IntKind} {w w' : World} {v : Value} {xs : List Int} {row : Option Nat} (h : Ints k w v xs) (hg : w.grownBy w' row) (hne : ∀ b, v.ownBlock = some b → row ≠ some b) : Ints k w' v xs := by
  obtain ⟨a, cap, rfl, h1, h2, h3⟩ := h
  refine ⟨a, cap, rfl, h1, h2, fun hp => ?_⟩
  obtain ⟨b, off, rfl, hb, hc⟩ := h3 hp
  refine ⟨b, off, rfl, Nat.lt_of_lt_of_le hb hg.size, fun j hj => ?_⟩
  rw [World.cell?_of_block (hg.block b hb fun e => hne b rfl e.symm)]
  exact hc j hj
/-- two slices that don't lie in one block -/
def Ap (v u : Value) : Prop := v.ownBlock = none ∨ v.ownBlock ≠ u.ownBlock
theorem Ap.symm {v u : Value} (h : Ap v u) : Ap u v := by
  rcases h with h | h
  · rcases hu : u.ownBlock with _ | k
    · exact .inl hu
    · exact .inr (by rw [h, hu]; simp)
  · exact .inr fun e => h e.symm
/-- an elder row and a younger one lie apart -/
theorem Ap.old {w w' : World} {b b' : Nat} {e e' : TypeId} {s s' n n' : Nat} {v u : Value} {xs ys : List Value} (h : w.ownsRow b e s v n xs) (h' : w'.ownsRow b' e' s' u n' ys) (hb : w.heap.size ≤ b') : Ap v u := by
  rcases hv : v.ownBlock with _ | k
  · exact .inl hv
  · refine .inr fun e => ?_
    rw [hv] at e
    have h1 := (h.lt k hv).2
    have h2 := (h'.lt k e.symm).1
    omega
/-- a row that has grown lies apart from what it lay apart from -/
theorem Ap.grown {w : World} {b : Nat} {e : TypeId} {s n : Nat} {v v' u : Value} {ys : List Value} (h : Ap u v) (hu : w.ownsRow b e s u n ys) (hat : v'.ownBlock = v.ownBlock ∨ v'.ownBlock = some w.heap.size) : Ap u v' := by
  rcases h with h | h
  · exact .inl h
  · rcases hv : u.ownBlock with _ | k
    · exact .inl hv
    · refine .inr fun e => ?_
      rw [hv] at e h
      rcases hat with hat | hat
      · rw [hat] at e; exact h e
      · rw [hat] at e
        have := (hu.lt k hv).2
        injection e with e
        omega
theorem own_put {w : World} {base : Nat} {e ty : TypeId} {g n : Nat} {v : Value} {xs : List Value} {cs : Array Value} (h : w.ownsRow base e 1 v n xs) (hB : Blk w g ty cs) (hty : e ≠ ty) (i : Nat) (u : Value) : (w.setCell ⟨g, i, none⟩ u).ownsRow base e 1 v n xs :=
  h.kept (setCell_grown _ _ _) (ownsRow_blk h hB hty)
theorem map_set_int (l : List Int) (j : Nat) (x : Int) : (l.map (Value.int .u64)).set j (.int .u64 x) = (l.set j x).map (Value.int .u64) := by rw [List.map_set]

set_option maxRecDepth 100000 in
set_option maxHeartbeats 1000000 in
theorem cmLessen (p x : Int) (n base g cap : Nat) (xs us : List Int) (u : Value) (w : World) (hp : rightB p = true) (hx : 0 ≤ x ∧ x < p) (hn : 1 ≤ n) (hn2 : n ≤ 64)
    (hown : w.ownsRow base 22 1 (.slice (some ⟨g, 0, none⟩) n cap) n (xs.map (Value.int .u64))) (hxs : Rng p xs) (hu : Ints .u64 w u us) (hul : us.length = n) (hus : Rng p us) (hne : ∀ k, u.ownBlock = some k → g ≠ k) :
    Calls Try.prog 99 #[.int .u64 p, .slice (some ⟨g, 0, none⟩) n cap, .int .u64 x, u] w fun e w' => e = .returned (.tuple #[]) ∧
      w'.ownsRow base 22 1 (.slice (some ⟨g, 0, none⟩) n cap) n ((tab n fun j => (xs.getD j 0 - x * us.getD j 0 % p) % p).map (Value.int .u64)) ∧ w.grownBy w' (some g) := by
  have hp2 := rightB_true hp
  have HP := hid hp
  have Hxs := hid hxs; have Hus := hid hus
  have hxl : xs.length = n := by have := hown.1; simpa using this
  obtain ⟨F, hF⟩ : ∃ F : Nat → Int, (fun j => (xs.getD j 0 - x * us.getD j 0 % p) % p) = F := ⟨_, rfl⟩
  have HF := hid (fun j => (congrFun hF j : (xs.getD j 0 - x * us.getD j 0 % p) % p = F j))
  rw [hF]
  have Hown := hid hown; have Hxl := hid hxl
  obtain ⟨a, cu, rfl, k1, k2, k3⟩ := hu
  rw [hul] at k1 k3 ⊢
  obtain ⟨b, off, rfl, hb, hc⟩ := k3 (by omega)
  have Hc := hid hc
  have hgb : g ≠ b := hne b rfl
  clear hF k3 hc hown hxl hne hul hxs hus hp
  go_enter Try.func99, Try.ntmps99
  go_wp2_with fail
  go_loopw [14] (fun iv wr => ∃ (j : Nat) (l : List Int), iv = .int .i64 j ∧ j ≤ n ∧ Hid (l.length = n) ∧ Hid (wr.ownsRow base 22 1 (.slice (some ⟨g, 0, none⟩) n cap) n (l.map (Value.int .u64))) ∧ Hid (∀ t, t < n → l.getD t 0 = if t < j then F t else xs.getD t 0) ∧ Hid (w.grownBy wr (some g))) (fun iv _ => n - (intOf iv).toNat)
  case atStart => exact ⟨0, xs, rfl, Nat.zero_le _, Hxl, Hown, hid (fun t ht => by rw [if_neg (by omega)]), hid ((Ext.refl w).grownBy _)⟩
  case round =>
    obtain ⟨j, l, rfl, hj, hl, ho, hget, hgr⟩ := hrel
    by_cases hlt : j < n
    · have gu := (World.cell?_of_block (a := ⟨b, off + j, none⟩) (hgr.out.block b hb (fun e => hgb (by injection e with e; exact e.symm)))).trans (Hc.out j hlt)
      have hlj := hget.out j hlt
      rw [if_neg (by omega)] at hlj
      have rx := Hxs.out.getD hp2.1 j
      have ru := Hus.out.getD hp2.1 j
      have hFj := HF.out j
      obtain ⟨y, ey⟩ : ∃ y, us.getD j 0 = y := ⟨_, rfl⟩
      obtain ⟨z, ez⟩ : ∃ z, xs.getD j 0 = z := ⟨_, rfl⟩
      rw [ey] at gu ru hFj; rw [ez] at hlj rx hFj
      obtain ⟨q, eq, q0, q1⟩ := name_mod (p := p) (x * y) hp2.1
      rw [eq] at hFj
      have hFr := mod_range (z - q) hp2.1
      rw [hFj] at hFr
      obtain ⟨t, et⟩ : ∃ t, F j = t := ⟨_, rfl⟩
      rw [et] at hFj hFr
      have Eq := hid eq; have Et := hid et; have HFj := hid hFj
      have gv := hid fun (W : World) (hW : Ext wr W) => (show W.cell? ⟨g, j, none⟩ = some (.int .u64 z) by
        rw [(ownsRow_ext ho.out hW).cellAt j (by omega), List.getElem?_map, List.getElem?_eq_getElem (show j < l.length by rw [hl.out]; exact hlt)]
        simp only [List.getD, List.getElem?_eq_getElem (show j < l.length by rw [hl.out]; exact hlt), Option.getD_some] at hlj
        rw [hlj]; rfl)
      have fv := hid fun (W : World) (hW : Ext wr W) => (ownsRow_ext ho.out hW).frozenAt j
      have hst := hid fun (W : World) (hW : Ext wr W) => (ownsRow_ext ho.out hW).stored j (.int .u64 t)
      clear ey ez eq et hFj hlj
      go_wp2_with (first
        | (go_at_call 29; refine (mul_as p x y q _ HP.out hx.1 hx.2 ru.1 ru.2 Eq.out).mono ?_; rintro _ w1 ⟨rfl, x1⟩; have g1 := gv.out w1 x1)
        | (go_at_call 66; refine (sub_as p z q t _ HP.out rx.1 rx.2 q0 q1 HFj.out).mono ?_; rintro _ w2 ⟨rfl, x2⟩; have x3 := x1.trans x2; have f2 := fv.out w2 x3; have g2 := gv.out w2 x3))
      have hs := hid (hst.out w2 x3)
      go_roundw
      case rel =>
        refine ⟨j + 1, l.set j t, by go_num, by omega, hid (by rw [List.length_set]; exact hl.out), hid (by rw [← map_set_int]; exact hs.out.1), hid (fun i hi => ?_), hid ((hgr.out.trans (x3.grownBy _)).trans hs.out.2)⟩
        rw [set_get l j i t (by rw [hl.out]; exact hlt)]
        by_cases e : j = i
        · subst e
          rw [if_pos rfl, if_pos (by omega), Et.out]
        · rw [if_neg e, hget.out i hi]
          by_cases e2 : i < j
          · rw [if_pos e2, if_pos (by omega)]
          · rw [if_neg e2, if_neg (by omega)]
      case measure => simp [intOf]; omega
    · obtain rfl : n = j := by omega
      have e : l = tab n F := tab_of hl.out fun t ht => by rw [hget.out t ht, if_pos ht]
      go_wp2_with fail
      go_end0
      exact ⟨rfl, by rw [← e]; exact ho.out, hgr.out⟩

set_option maxHeartbeats 400000 in
theorem cmNot0 (y : Int) (w : World) : Calls Try.prog 101 #[.int .u64 y] w fun e w' => e = .returned (.bool (y != 0)) ∧ w = w' := by
  go_enter Try.func101, Try.ntmps101
  go_wp2_with fail
  go_ret
  exact ⟨rfl, rfl⟩
/-- where the first number that isn't 0 stands -/
def leadV (l : List Int) : Int := if leadE l < l.length then (leadE l : Int) else -1
set_option maxRecDepth 100000 in
set_option maxHeartbeats 1000000 in
theorem cmIndex (v : Value) (xs : List Int) (w : World) (hv : Ints .u64 w v xs) (hx : U64s xs) (hl : xs.length ≤ 1000000) :
    Calls Try.prog 100 #[v, .func (.func 101) #[] #[]] w (Ret (.int .i64 (leadV xs)) w) := by
  have C1 := hid fun y W => cmNot0 y W
  obtain ⟨L, hL⟩ : ∃ L, leadV xs = L := ⟨_, rfl⟩
  rw [hL]
  have HL := hid hL
  have Hx := hid hx
  obtain ⟨a, cap, rfl, k1, k2, k3⟩ := hv
  have K3 := hid k3
  obtain ⟨n, en⟩ : ∃ n, xs.length = n := ⟨_, rfl⟩
  have En := hid en
  rw [en] at k1 K3 hl ⊢
  clear k3 hL en hx
  go_enter Try.func100, Try.ntmps100
  go_wp2_with fail
  go_loopw [8] (fun iv wr => ∃ (j : Nat), iv = .int .i64 j ∧ j ≤ n ∧ Hid (∀ t, t < j → xs.getD t 0 = 0) ∧ Ext w wr) (fun iv _ => n - (intOf iv).toNat)
  case atStart => exact ⟨0, rfl, Nat.zero_le _, hid (fun t ht => absurd ht (Nat.not_lt_zero _)), Ext.refl _⟩
  case round =>
    obtain ⟨j, rfl, hj, hz, hw⟩ := hrel
    by_cases hlt : j < n
    · obtain ⟨b, off, rfl, hb, hc⟩ := K3.out (by omega)
      have g1 := (hw.cells _ _ hb).trans (hc j hlt)
      have ry := Hx.out.get (k := j) (by rw [En.out]; exact hlt)
      obtain ⟨y, ey⟩ : ∃ y, xs.getD j 0 = y := ⟨_, rfl⟩
      rw [ey] at g1 ry
      have Ey := hid ey
      clear ey hc
      by_cases c : y = 0
      · have e0 : ((0 : Int) != 0) = false := by decide
        have C2 := hid (C1.out 0)
        rw [e0] at C2
        subst c
        go_wp2_with (go_at_call 101; refine (C2.out _).mono ?_; rintro _ _ ⟨rfl, rfl⟩)
        go_roundw
        case rel =>
          refine ⟨j + 1, by go_num, by omega, hid (fun t ht => ?_), hw⟩
          by_cases e : t = j
          · rw [e, Ey.out]
          · exact hz.out t (by omega)
        case measure => simp [intOf]; omega
      · have e0 : (y != 0) = true := by simp [c]
        have C2 := hid (C1.out y)
        rw [e0] at C2
        have hLj := hid (show L = (j : Int) by
          have hjl : j < xs.length := by rw [En.out]; exact hlt
          have e1 : leadE xs = j := leadE_eq hjl (by rw [Ey.out]; exact c) hz.out
          rw [← HL.out]; unfold leadV
          rw [e1, if_pos hjl])
        go_wp2_with (go_at_call 101; refine (C2.out _).mono ?_; rintro _ _ ⟨rfl, rfl⟩)
        go_ret
        exact ⟨ret_int hLj.out.symm, hw⟩
    · obtain rfl : n = j := by omega
      have hLj := hid (show L = -1 by
        have e1 : leadE xs = xs.length := leadE_all fun t ht => hz.out t (by rw [← En.out]; exact ht)
        rw [← HL.out]; unfold leadV
        rw [e1, if_neg (Nat.lt_irrefl _)])
      go_wp2_with fail
      go_ret
      exact ⟨ret_int hLj.out.symm, hw⟩
end Go.Proofs.Ythmmakkldkjnlaa
/- Package perm: what undoes an order, and its sign; what an order answers, if it is one. -/
namespace Go.Proofs.Ythmmakkldkjnlaa
open Go.RowKit Go.Maps

/-- a sign, of so many pairs -/
def sgnN (m : Nat) : Int := if m % 2 = 0 then 1 else -1
theorem sgnN_succ (m : Nat) : sgnN (m + 1) = -sgnN m := by
  unfold sgnN
  rcases Nat.mod_two_eq_zero_or_one m with h | h
  · rw [if_neg (by omega), if_pos h]
  · rw [if_pos (by omega), if_neg (by omega)]; rfl
theorem sgnN_or (m : Nat) : -1 ≤ sgnN m ∧ sgnN m ≤ 1 := by unfold sgnN; split <;> simp

end Go.Proofs.Ythmmakkldkjnlaa
