import Derived.Test.YthomeenmcajmdaaGreatDoorBun20
import Derived.Test.YthomeenmcajmdaaGreatDoorBun18
import Derived.Test.YthomeenmcajmdaaGreatDoorBun06
import Derived.Test.YthomeenmcajmdaaGreatDoorBun03
import Derived.Deep.RegionHeld3
namespace Go.Proofs.YthomeenmcajmdaaGreatDoor
open Go.RowKit Go.Maps
theorem pmSide (n : Int) (w : World) : Calls Tryz.prog 172 #[.int .i64 n] w fun e w' => e = .returned (.bool (sideB n)) ∧ w = w' := by
  by_cases h : 1 ≤ n
  · by_cases h' : n ≤ 64
    all_goals
      go_enter Tryz.func172, Tryz.ntmps172
      go_wp2
      go_ret
      exact ⟨ret_bool (by simp [sideB]; omega), rfl⟩
  · go_enter Tryz.func172, Tryz.ntmps172
    go_wp2
    go_ret
    exact ⟨ret_bool (by simp [sideB]; omega), rfl⟩
theorem Ord.of_nodup {n : Nat} {p : List Int} (hl : p.length = n) (hr : ∀ j, j < n → 0 ≤ p.getD j 0 ∧ p.getD j 0 < n) (hn : p.Nodup) : Ord n p := by
  have hp := nodup_sub (r := upL n) hn (fun x hx => by
    obtain ⟨j, hj, rfl⟩ := List.getElem_of_mem hx
    have := hr j (by omega)
    rw [List.getD, List.getElem?_eq_getElem hj] at this
    exact upL_mem.2 this) (by rw [upL_len]; omega)
  exact Ord.of_perm hp.symm
theorem nodup_take_succ {p : List Int} {k : Nat} (h : k < p.length) (hn : (p.take k).Nodup) (hx : p.getD k 0 ∉ p.take k) : (p.take (k + 1)).Nodup := by
  rw [take_snoc_getD h, List.nodup_append]
  exact ⟨hn, by simp, fun a ha b hb e => by
    have : b = p.getD k 0 := by simpa using hb
    subst e; subst this; exact hx ha⟩
set_option maxRecDepth 100000 in
set_option maxHeartbeats 1000000 in
theorem qmRight (v : Value) (p : List Int) (w : World) (hv : Ints .i64 w v p) : Calls Tryz.prog 157 #[v] w (Ret (.bool (ordB p)) w) := by
  have CS := hid fun n W => pmSide n W
  obtain ⟨O, hO⟩ : ∃ O, ordB p = O := ⟨_, rfl⟩
  rw [hO]
  have HO := hid hO
  obtain ⟨a, cap, rfl, k1, k2, k3⟩ := hv
  have K3 := hid k3
  obtain ⟨n, en⟩ : ∃ n, p.length = n := ⟨_, rfl⟩
  have En := hid en
  rw [en] at k1 K3 ⊢
  clear k3 hO en
  by_cases hn : 1 ≤ (n : Int) ∧ (n : Int) ≤ 64
  · have s : sideB n = true := decide_eq_true hn
    have hn2 : 1 ≤ n ∧ n ≤ 64 := by omega
    obtain ⟨b, off, rfl, hb, hc⟩ := K3.out (by omega)
    have Hc := hid hc
    clear hc hn
    go_enter Tryz.func157, Tryz.ntmps157
    go_wp2_with (go_at_call 172; refine (CS.out _ _).mono ?_; rintro _ _ ⟨rfl, rfl⟩)
    go_loopw [12] (fun iv wr => ∃ (k : Nat) (cs : Array Value), iv = .int .i64 k ∧ k ≤ n ∧ Hid (Blk wr w.heap.size 203 cs) ∧ Hid (∀ y, y < 64 → cs[y]? = some (.bool (decide ((y : Int) ∈ p.take k)))) ∧ Hid (∀ j, j < k → 0 ≤ p.getD j 0 ∧ p.getD j 0 < n) ∧ Hid ((p.take k).Nodup) ∧ Ext w wr) (fun iv _ => n - (intOf iv).toNat)
    case atStart => exact ⟨0, _, rfl, Nat.zero_le _, hid (Blk.new _ _ _), hid (fun y hy => by show (Array.replicate 64 (Value.bool false))[y]? = _; simp [hy]), hid (fun j hj => absurd hj (Nat.not_lt_zero _)), hid (by simp), (Ext.refl _).alloc _⟩
    case round =>
      obtain ⟨k, cs, rfl, hk, hbl, hcs, hr, hnd, hxw⟩ := hrel
      by_cases hlt : k < n
      · have g1 := (hxw.cells _ _ hb).trans (Hc.out k hlt)
        obtain ⟨x, ex⟩ : ∃ x, p.getD k 0 = x := ⟨_, rfl⟩
        rw [ex] at g1
        have Ex := hid ex
        have hbad := hid (fun (h : ¬ (0 ≤ x ∧ x < n) ∨ x ∈ p.take k) => (show O = false by
          rw [← HO.out, Bool.eq_false_iff]
          intro hb
          obtain ⟨_, _, ho⟩ := ordB_iff.1 hb
          rw [En.out] at ho
          have hg := ho.get (k := k) hlt
          rw [ex] at hg
          rcases h with h | h
          · exact h hg
          · obtain ⟨j, hj, e⟩ := List.getElem_of_mem h
            rw [List.length_take] at hj
            have := ho.inj (i := j) (k := k) (by omega) hlt (by
              rw [ex, ← e]; simp [List.getD, show j < p.length by omega])
            omega))
        clear ex
        by_cases c1 : x < 0
        · have hf := hid (hbad.out (.inl (by omega)))
          go_wp2_with fail
          go_ret
          exact ⟨ret_bool hf.out.symm, hxw⟩
        by_cases c2 : (n : Int) ≤ x
        · have hf := hid (hbad.out (.inl (by omega)))
          go_wp2_with fail
          go_ret
          exact ⟨ret_bool hf.out.symm, hxw⟩
        obtain ⟨t, rfl⟩ := Int.eq_ofNat_of_zero_le (show 0 ≤ x by omega)
        have ht : t < n := by omega
        have gX := (hbl.out.cell t).trans (hcs.out t (by omega))
        have gF := hbl.out.frozen t
        have hsz : t < cs.size := (Array.getElem?_eq_some_iff.1 (hcs.out t (by omega))).1
        obtain ⟨B, eB⟩ : ∃ B, decide ((t : Int) ∈ p.take k) = B := ⟨_, rfl⟩
        rw [eB] at gX
        have EB := hid eB
        clear eB
        cases B with
        | true =>
          have hf := hid (hbad.out (.inr (of_decide_eq_true EB.out)))
          go_wp2_with fail
          go_ret
          exact ⟨ret_bool hf.out.symm, hxw⟩
        | false =>
          have hnew := hid (of_decide_eq_false EB.out)
          go_wp2_with fail
          go_roundw
          case rel =>
            have hkl : k < p.length := by have := En.out; omega
            refine ⟨k + 1, cs.setIfInBounds t (.bool true), by go_num, by omega, hid (hbl.out.set_ t (.bool true)), hid (fun y hy => ?_), hid (fun j hj => ?_), hid ?_, hxw.setCell (p := ⟨w.heap.size, t, none⟩) (Nat.le_refl _) _⟩
            · rw [Array.getElem?_setIfInBounds, take_snoc_getD hkl, Ex.out]
              by_cases e : t = y
              · subst e
                rw [if_pos rfl, if_pos hsz]
                congr 2
                symm
                exact decide_eq_true (by simp)
              · rw [if_neg e, hcs.out y hy]
                congr 2
                rw [decide_eq_decide]
                simp only [List.mem_append, List.mem_singleton]
                exact ⟨.inl, fun h => h.resolve_right (by omega)⟩
            · by_cases e : j = k
              · rw [e, Ex.out]; omega
              · exact hr.out j (by omega)
            · exact nodup_take_succ hkl hnd.out (by rw [Ex.out]; exact hnew.out)
          case measure => simp [intOf]; omega
      · obtain rfl : n = k := by omega
        have hf := hid (show O = true by
          rw [← HO.out]
          have hl := En.out
          have hnd2 := hnd.out
          rw [List.take_of_length_le (by omega)] at hnd2
          exact (Ord.of_nodup hl hr.out hnd2).b (by omega) hn2.2)
        go_wp2_with fail
        go_ret
        exact ⟨ret_bool hf.out.symm, hxw⟩
  · have s : sideB n = false := decide_eq_false hn
    have hf : O = false := by
      rw [← HO.out, Bool.eq_false_iff]
      intro hb
      obtain ⟨h1, h2, _⟩ := ordB_iff.1 hb
      rw [En.out] at h1 h2
      exact hn (by omega)
    subst hf
    clear hn K3
    go_enter Tryz.func157, Tryz.ntmps157
    go_wp2_with (go_at_call 172; refine (CS.out _ _).mono ?_; rintro _ _ ⟨rfl, rfl⟩)
    go_ret
    exact ⟨rfl, Ext.refl _⟩
theorem Blk.ints {w : World} {g n : Nat} {t : TypeId} {cs : Array Value} {k : IntKind} {xs : List Int} (h : Blk w g t cs) (hl : xs.length = n) (hn : n ≤ 9223372036854775807) (hc : ∀ j, j < n → cs[j]? = some (.int k (xs.getD j 0))) : Ints k w (.slice (some ⟨g, 0, none⟩) n n) xs := by
  subst hl
  exact Ints.mk (Nat.le_refl _) hn h.lt fun j hj => by rw [Nat.zero_add, h.cell j]; exact hc j hj
end Go.Proofs.YthomeenmcajmdaaGreatDoor
namespace Go.Proofs.YthomeenmcajmdaaGreatDoor
open Go.RowKit Go.Maps
def Vals (w : World) (u : Value) (us : List Value) : Prop :=
  ∃ (a : Option Addr) (cap : Nat), u = .slice a us.length cap ∧ us.length ≤ cap ∧ cap ≤ 9223372036854775807 ∧
    (0 < us.length → ∃ b off, a = some ⟨b, off, none⟩ ∧ b < w.heap.size ∧ ∀ j x, us[j]? = some x → w.cell? ⟨b, off + j, none⟩ = some x)
theorem Vals.ext {w w' : World} {u : Value} {us : List Value} (h : Vals w u us) (he : Ext w w') : Vals w' u us := by
  obtain ⟨a, cap, h1, h2, h3, h4⟩ := h
  refine ⟨a, cap, h1, h2, h3, fun hp => ?_⟩
  obtain ⟨b, off, ha, hb, hc⟩ := h4 hp
  exact ⟨b, off, ha, Nat.lt_of_lt_of_le hb he.size, fun j x hj => (he.cells _ _ hb).trans (hc j x hj)⟩
theorem getD_some {α : Type} {l : List α} {j : Nat} {x : α} (d : α) (h : l[j]? = some x) : l.getD j d = x := by rw [List.getD, h]; rfl
theorem Vals.ints {k : IntKind} {w : World} {v : Value} {xs : List Int} (h : Vals w v (xs.map (Value.int k))) : Ints k w v xs := by
  obtain ⟨a, cap, h1, h2, h3, h4⟩ := h
  rw [List.length_map] at h1 h2 h4
  refine ⟨a, cap, h1, h2, h3, fun hp => ?_⟩
  obtain ⟨b, off, ha, hb, hc⟩ := h4 hp
  refine ⟨b, off, ha, hb, fun j hj => hc j _ ?_⟩
  simp [List.getD, hj]
theorem Vals.nil {w : World} : Vals w (.slice none 0 0) [] := ⟨none, 0, rfl, by simp, by omega, by simp⟩
theorem make_rows {P : Program} (t e : TypeId) (bytes : Nat) (hb : bytes ≤ 24) (ht : P.underlying t = some (.slice e)) (hi : (P.info? e).map (fun i => (i.zero, i.size, i.bytes)) = some (some (.slice none 0 0), 1, bytes))
    (n c : Nat) (hnc : n ≤ c) (hc : c ≤ 1000000) (w : World) :
    (Instr.makeSlice t (.int .i64 n) (.int .i64 c)).run P w = .ok (.slice (some ⟨w.heap.size, 0, none⟩) n c) (w.alloc (.cells (madeCells #[Value.slice none 0 0] c) e)) := by
  obtain ⟨i, h1, h2, h3, h4⟩ := info_parts hi
  have hbc : i.bytes * c ≤ 24 * c := Nat.mul_le_mul_right _ (by omega)
  have hbi : (i.bytes : Int) * (c : Int) ≤ 281474976710656 := by rw [← Int.natCast_mul]; omega
  have := run_make (P := P) w t e i _ ht h1 h2 .i64 .i64 n c (by omega) (by omega) hbi (by omega)
  rw [this, h3]
  simp [Value.cells]
def slV (x : Option Addr × Nat × Nat) : Value := .slice x.1 x.2.1 x.2.2
end Go.Proofs.YthomeenmcajmdaaGreatDoor
namespace Go.Proofs.YthomeenmcajmdaaGreatDoor
open Go.RowKit Go.Maps
structure Und (w0 w : World) (h g Q : Nat) (r c : Int) (l : List Int) : Prop where
  box : Blk w h 26 #[.int .i64 r, .int .i64 c, .slice (some ⟨g, 0, none⟩) Q Q]
  row : WRow w g 0 l
  len : l.length = Q
  ext : Ext w0 w
  hg : w0.heap.size ≤ g
  hh : w0.heap.size ≤ h
  ne : g ≠ h
theorem Und.ext' {w0 w w' : World} {h g Q : Nat} {r c : Int} {l : List Int} (b : Und w0 w h g Q r c l) (y : Ext w w') : Und w0 w' h g Q r c l :=
  ⟨b.box.ext y, b.row.ext y, b.len, b.ext.trans y, b.hg, b.hh, b.ne⟩
theorem Und.put {w0 w : World} {h g Q : Nat} {r c : Int} {l : List Int} (b : Und w0 w h g Q r c l) {i : Nat} (hi : i < Q) (x : Int) : Und w0 (w.setCell ⟨g, i, none⟩ (.int .u64 x)) h g Q r c (l.set i x) := by
  have hs := b.row.set_ (i := i) (by rw [b.len]; exact hi) x
  rw [Nat.zero_add] at hs
  exact ⟨b.box.grown (setCell_grown _ _ _) (fun e => b.ne (by injection e)), hs, by rw [List.length_set]; exact b.len, b.ext.setCell (p := ⟨g, i, none⟩) b.hg _, b.hg, b.hh, b.ne⟩
theorem Und.at_ {w0 w : World} {h g Q : Nat} {r c : Int} {l : List Int} (b : Und w0 w h g Q r c l) {i : Nat} (hi : i < Q) : w.cell? ⟨g, i, none⟩ = some (.int .u64 (l.getD i 0)) ∧ w.frozen? ⟨g, i, none⟩ = false := by
  have := b.row.2 i (by rw [b.len]; exact hi)
  rw [Nat.zero_add] at this
  exact this
theorem Und.start {w0 w : World} {g Q : Nat} {r c : Int} {l : List Int} (hg : w0.heap.size ≤ g) (hrow : WRow w g 0 l) (hl : l.length = Q) (x : Ext w0 w) :
    Und w0 (w.alloc (.cells #[.int .i64 r, .int .i64 c, .slice (some ⟨g, 0, none⟩) Q Q] 26)) w.heap.size g Q r c l :=
  ⟨Blk.new _ _ _, hrow.ext ((Ext.refl _).alloc _), hl, x.alloc _, hg, x.size, Nat.ne_of_lt hrow.1⟩
theorem fin0 {w wv : World} {g : Nat} {x y z : Value} (hR : Blk w g 26 #[x, y, z]) (hv : Ext wv w) (hg : wv.heap.size ≤ g) (a b c : Value) :
    Blk (((w.setCell ⟨g, 0, none⟩ a).setCell ⟨g, 1, none⟩ b).setCell ⟨g, 2, none⟩ c) g 26 #[a, b, c] ∧ Ext wv (((w.setCell ⟨g, 0, none⟩ a).setCell ⟨g, 1, none⟩ b).setCell ⟨g, 2, none⟩ c) :=
  ⟨((hR.set_ 0 a).set_ 1 b).set_ 2 c, ((hv.setCell (p := ⟨g, 0, none⟩) hg a).setCell (p := ⟨g, 1, none⟩) hg b).setCell (p := ⟨g, 2, none⟩) hg c⟩
theorem Und.fin {w0 w wv : World} {h g Q G : Nat} {r c : Int} {l : List Int} (b : Und w0 w h g Q r c l) {x y z : Value} (hR : Blk w G 26 #[x, y, z]) (hG : G < w0.heap.size) (hv : Ext wv w) (hgv : wv.heap.size ≤ G) (hQ : Q ≤ 9223372036854775807) :
    Blk (((w.setCell ⟨G, 0, none⟩ (.int .i64 r)).setCell ⟨G, 1, none⟩ (.int .i64 c)).setCell ⟨G, 2, none⟩ (.slice (some ⟨g, 0, none⟩) Q Q)) G 26 #[.int .i64 r, .int .i64 c, .slice (some ⟨g, 0, none⟩) Q Q] ∧
    Ints .u64 (((w.setCell ⟨G, 0, none⟩ (.int .i64 r)).setCell ⟨G, 1, none⟩ (.int .i64 c)).setCell ⟨G, 2, none⟩ (.slice (some ⟨g, 0, none⟩) Q Q)) (.slice (some ⟨g, 0, none⟩) Q Q) l ∧
    Ext wv (((w.setCell ⟨G, 0, none⟩ (.int .i64 r)).setCell ⟨G, 1, none⟩ (.int .i64 c)).setCell ⟨G, 2, none⟩ (.slice (some ⟨g, 0, none⟩) Q Q)) := by
  have hne : g ≠ G := by have := b.hg; omega
  refine ⟨(fin0 hR hv hgv _ _ _).1, ?_, (fin0 hR hv hgv _ _ _).2⟩
  exact (((b.row.set_other hne).set_other hne).set_other hne).ints' b.len (Nat.le_refl _) hQ
theorem boxes2 (w : World) (t t' : TypeId) (A B : Array Value) :
    Blk ((w.alloc (.cells A t)).alloc (.cells B t')) w.heap.size t A ∧ Blk ((w.alloc (.cells A t)).alloc (.cells B t')) (w.heap.size + 1) t' B ∧ Ext w ((w.alloc (.cells A t)).alloc (.cells B t')) :=
  ⟨(Blk.new w t A).ext ((Ext.refl _).alloc _), Blk.at_ (by rw [alloc_size]), ((Ext.refl w).alloc _).alloc _⟩
theorem at_inj {c i k i' k' : Nat} (hk : k < c) (hk' : k' < c) (h : i * c + k = i' * c + k') : i = i' ∧ k = k' := by
  constructor
  · rw [← at_div hk (i := i), h, at_div hk']
  · rw [← at_mod hk (i := i), h, at_mod hk']
theorem put_at {l : List Int} {c j i a b : Nat} (x : Int) (hi : i < c) (hb : b < c) (hl : j * c + i < l.length) : (l.set (j * c + i) x).getD (a * c + b) 0 = if a = j ∧ b = i then x else l.getD (a * c + b) 0 := by
  rw [set_get l _ _ x hl]
  by_cases e : a = j ∧ b = i
  · rw [if_pos e, if_pos (by rw [e.1, e.2])]
  · rw [if_neg e, if_neg (fun h => e (by obtain ⟨h1, h2⟩ := at_inj hi hb h; exact ⟨h1.symm, h2.symm⟩))]
set_option maxRecDepth 100000 in
set_option maxHeartbeats 1000000 in
theorem mxTurn_yes (p : Int) (m n : Nat) (v : Value) (xs : List Int) (w : World) (ok : MatOk p m n xs) (hv : Ints .u64 w v xs) :
    Calls Tryz.prog 110 #[.int .u64 p, matV m n v] w (RetN n m (turnL m n xs) w) := by
  have hp2 := rightB_true ok.hp
  have C1 := hid fun (W : World) (hW : Ext w W) => mxRight p m n v xs W (by omega) (by omega) (hv.ext hW) ok.u64
  rw [ok.b] at C1
  have Ok := hid ok
  have hm := ok.hm; have hn := ok.hn
  obtain ⟨a, cap, rfl, k1, k2, k3⟩ := hv
  obtain ⟨b, off, rfl, hb, k4⟩ := k3 ok.pos
  have K := hid k4
  have hcap := hid fun (i : Nat) (h : i < m) => Nat.le_trans (ok.at_ h) k1
  clear k3 k4 ok
  obtain ⟨Q, hQ⟩ : ∃ Q, n * m = Q := ⟨_, rfl⟩
  have hQb : Q ≤ 4096 := by rw [← hQ]; exact Nat.mul_le_mul hn.2 hm.2
  have HN := hid fun W : World => mxNoughts n m W hn.2 hm.2
  rw [hQ] at HN
  have HQ := hid hQ
  clear hQ
  have hb2 := hid (boxes2 w 26 26 #[.int .i64 (m : Int), .int .i64 (n : Int), .slice (some ⟨b, off, none⟩) xs.length cap] #[.int .i64 0, .int .i64 0, .slice none 0 0])
  unfold matV at C1
  unfold matV
  go_enter Tryz.func110, Tryz.ntmps110
  go_wp2_with (go_at_call 27; refine (C1.out _ (by repeat (first | exact Ext.refl _ | assumption | refine Ext.drew ?_ | refine Ext.drewN ?_ _ | refine Ext.alloc ?_ _ | refine Ext.trans ?_ (by assumption)))).mono ?_; rintro _ w1 ⟨rfl, x1⟩; have HA := hid (hb2.out.1.ext x1); have HR := hid (hb2.out.2.1.ext x1); have HE := hid (hb2.out.2.2.trans x1); obtain ⟨b0, b1, b2⟩ := HA.out.at3)
  have hR1 := HR.out.lt
  refine (HN.out _).mono ?_
  rintro _ w2 ⟨g, rfl, hg, hrow, x2⟩
  have HU := hid (Und.start (Q := Q) (r := (n : Int)) (c := (m : Int)) hg hrow List.length_replicate x2)
  unfold matV
  have b3 := (HA.out.ext (x2.alloc (.cells #[.int .i64 (n : Int), .int .i64 (m : Int), .slice (some ⟨g, 0, none⟩) Q Q] 26))).at3
  clear b0 b1 b2
  obtain ⟨b0, b1, b2⟩ := b3
  go_wp2_with fail
  obtain ⟨h, hh⟩ : ∃ h, w2.heap.size = h := ⟨_, rfl⟩
  obtain ⟨w3, hw3⟩ : ∃ w3, w2.alloc (.cells #[.int .i64 (n : Int), .int .i64 (m : Int), .slice (some ⟨g, 0, none⟩) Q Q] 26) = w3 := ⟨_, rfl⟩
  rw [hw3, hh] at HU
  rw [hw3, hh]
  clear hh hw3 b0 b1 b2 hrow x2 hg
  obtain ⟨gR, hgR⟩ : ∃ gR, w.heap.size + 1 = gR := ⟨_, rfl⟩
  have hgw : w.heap.size ≤ gR := by omega
  rw [hgR] at HR hR1
  rw [hgR]
  obtain ⟨gA, hgA⟩ : ∃ gA, w.heap.size = gA := ⟨_, rfl⟩
  have hbA : b < gA := by omega
  rw [hgA] at HA
  rw [hgA]
  clear hgR hgA
  go_loopw [22] (fun iv wr => ∃ (i : Nat) (l : List Int), iv = .int .i64 i ∧ i ≤ m ∧ Hid (Und w1 wr h g Q n m l) ∧ Hid (∀ a b, a < n → b < i → l.getD (a * m + b) 0 = xs.getD (b * n + a) 0)) (fun iv _ => m - (intOf iv).toNat)
  case atStart => exact ⟨0, _, rfl, Nat.zero_le _, HU, hid (by omega)⟩
  case round =>
    clear HU
    obtain ⟨i, l, rfl, hi, HU, hl⟩ := hrel
    obtain ⟨b0, b1, b2⟩ := (HA.out.ext HU.out.ext).at3
    by_cases hlt : i < m
    · have hck := hcap.out i hlt
      have hcells := fun (j : Nat) (hj : j < n) => K.out (i * n + j) (by have := Ok.out.at_ hlt; omega)
      go_wp2_with fail
      refine (mxRow (m : Int) (n : Int) n i b off xs.length cap wr rfl hn (by omega) hck k2).mono ?_
      rintro _ w4 ⟨rfl, x4⟩
      simp only [← Nat.add_assoc] at hcells
      obtain ⟨o, ho⟩ : ∃ o, off + i * n = o := ⟨_, rfl⟩
      obtain ⟨cp, hcp⟩ : ∃ cp, cap - i * n = cp := ⟨_, rfl⟩
      rw [ho] at hcells
      rw [ho, hcp]
      have hcpn : n ≤ cp := by omega
      have hcpb : cp ≤ 9223372036854775807 := by omega
      have HC := hid hcells
      clear ho hcp hck hcells b0 b1 b2
      go_wp2_with fail
      go_loopw [29] (fun jv wr => ∃ (j : Nat) (l : List Int), jv = .int .i64 j ∧ j ≤ n ∧ Hid (Und w1 wr h g Q n m l) ∧ Hid (∀ a b, a < n → (b < i ∨ b = i ∧ a < j) → l.getD (a * m + b) 0 = xs.getD (b * n + a) 0)) (fun jv _ => n - (intOf jv).toNat)
      case atStart => exact ⟨0, l, rfl, Nat.zero_le _, hid (HU.out.ext' x4), hid fun a b ha hb => hl.out a b ha (by omega)⟩
      case round =>
        clear HU hl
        obtain ⟨j, l, rfl, hj, HU, hl⟩ := hrel
        rename World => wi
        by_cases hlj : j < n
        · have gx := ((HE.out.trans HU.out.ext).cells _ _ hb).trans (HC.out j hlj)
          obtain ⟨x, ex⟩ : ∃ x, xs.getD (i * n + j) 0 = x := ⟨_, rfl⟩
          rw [ex] at gx
          have Ex := hid ex
          clear ex
          obtain ⟨b0, b1, b2⟩ := (HA.out.ext HU.out.ext).at3
          obtain ⟨o0, o1, o2⟩ := HU.out.box.at3
          obtain ⟨q, hq⟩ : ∃ q, j * m = q := ⟨_, rfl⟩
          obtain ⟨t, ht⟩ : ∃ t, q + i = t := ⟨_, rfl⟩
          have htQ : t < Q := by rw [← ht, ← hq, ← HQ.out]; exact at_lt hlj hlt
          have hqi : (j : Int) * (m : Int) = (q : Int) := by rw [← hq]; push_cast; rfl
          have hti : (q : Int) + (i : Int) = (t : Int) := by omega
          have hqb : q ≤ t := by omega
          obtain ⟨gt, ft⟩ := HU.out.at_ htQ
          have Htq := hid (show j * m + i = t by omega)
          clear ht hq
          go_wp2_with fail
          go_roundw
          case rel =>
            refine ⟨j + 1, l.set t x, by go_num, by omega, hid (HU.out.put htQ x), hid fun a b ha hb => ?_⟩
            rw [← Htq.out, put_at x hlt (by omega) (by rw [Htq.out, HU.out.len]; exact htQ)]
            by_cases e : a = j ∧ b = i
            · rw [if_pos e, e.1, e.2]; exact Ex.out.symm
            · rw [if_neg e]; exact hl.out a b ha (by omega)
          case measure => simp [intOf]; omega
        · obtain rfl : n = j := by omega
          go_wp2_with fail
          go_roundw
          case rel => exact ⟨i + 1, l, by go_num, by omega, HU, hid fun a b ha hb => hl.out a b ha (by omega)⟩
          case measure => simp [intOf]; omega
    · obtain rfl : m = i := by omega
      obtain ⟨o0, o1, o2⟩ := HU.out.box.at3
      have hRr := HR.out.ext HU.out.ext
      obtain ⟨r0, r1, r2⟩ := hRr.at3
      have f0 := hRr.frozen 0
      have f1 := hRr.frozen 1
      have f2 := hRr.frozen 2
      have F := hid (HU.out.fin hRr hR1 (HE.out.trans HU.out.ext) hgw (by omega))
      clear hRr
      go_wp2_with fail
      refine bodyPost_ret (results_cell_row_tmp rfl _ _ gR 26 _ (0, 0) _ rfl F.out.1 Tryz.underlying26 rfl (by kernel_rfl)) rfl ?_
      have e : l = turnL m n xs := grid_of (by rw [HU.out.len, HQ.out]) fun a b ha hb => hl.out a b ha hb
      exact ⟨_, rfl, e ▸ F.out.2.1, F.out.2.2⟩
end Go.Proofs.YthomeenmcajmdaaGreatDoor
namespace Go.Proofs.YthomeenmcajmdaaGreatDoor
open Go.RowKit Go.Maps
def sgnN (m : Nat) : Int := if m % 2 = 0 then 1 else -1
theorem sgnN_succ (m : Nat) : sgnN (m + 1) = -sgnN m := by
  unfold sgnN
  rcases Nat.mod_two_eq_zero_or_one m with h | h
  · rw [if_neg (by omega), if_pos h]
  · rw [if_pos (by omega), if_neg (by omega)]; rfl
theorem sgnN_or (m : Nat) : -1 ≤ sgnN m ∧ sgnN m ≤ 1 := by unfold sgnN; split <;> simp
set_option maxRecDepth 100000 in
set_option maxHeartbeats 1000000 in
theorem ordSign (v : Value) (p : List Int) (w : World) (hv : Ints .i64 w v p) (h0 : 0 < p.length) (hn : p.length ≤ 64) : Calls Tryz.prog 138 #[v] w (Ret (.int .i64 (sgnL p)) w) := by
  have HI := hid (fun i (h : i < p.length) => inv_take_succ h)
  have HG := hid (fun i k (h : k < p.length) => gtTo_succ (i := i) h)
  have HS := hid (show sgnL p = sgnN (invL (p.take p.length)) by rw [List.take_length]; rfl)
  obtain ⟨S0, hS0⟩ : ∃ S, sgnL p = S := ⟨_, rfl⟩
  rw [hS0] at HS ⊢
  clear hS0
  obtain ⟨a, cap, rfl, k1, k2, k3⟩ := hv
  obtain ⟨b, off, rfl, hb, hc⟩ := k3 h0
  have Hc := hid hc
  obtain ⟨n, en⟩ : ∃ n, p.length = n := ⟨_, rfl⟩
  rw [en] at HI HG HS k1 Hc h0 hn ⊢
  clear k3 hc en
  go_enter Tryz.func138, Tryz.ntmps138
  go_wp2_with fail
  go_loopw [10, 3] (fun iv sv wr => ∃ (i : Nat) (S : Int), iv = .int .i64 i ∧ sv = .int .i64 S ∧ i ≤ n ∧ Hid (S = sgnN (invL (p.take i))) ∧ Ext w wr) (fun iv _ _ => n - (intOf iv).toNat)
  case atStart => exact ⟨0, 1, rfl, rfl, Nat.zero_le _, hid (by simp [invL, sgnN]), Ext.refl _⟩
  case round =>
    obtain ⟨i, S, rfl, rfl, hi, hS, hw⟩ := hrel
    by_cases hlt : i < n
    · rename World => wo
      have gi := (hw.cells _ _ hb).trans (Hc.out i hlt)
      obtain ⟨x, ex⟩ : ∃ x, p.getD i 0 = x := ⟨_, rfl⟩
      rw [ex] at gi
      have Ex := hid ex
      clear ex
      go_wp2_with fail
      go_loopw [19, 3] (fun kv sv wr => ∃ (k : Nat) (S : Int), kv = .int .i64 k ∧ sv = .int .i64 S ∧ k ≤ i ∧ Hid (S = sgnN (invL (p.take i) + gtTo p i k)) ∧ Ext wo wr) (fun kv _ _ => i - (intOf kv).toNat)
      case atStart => exact ⟨0, S, rfl, rfl, Nat.zero_le _, hid (by rw [hS.out]; simp [gtTo]), Ext.refl _⟩
      case round =>
        clear hS
        obtain ⟨k, S, rfl, rfl, hk, hS, hwi⟩ := hrel
        by_cases hlk : k < i
        · have g2 := ((hw.trans hwi).cells _ _ hb).trans (Hc.out k (by omega))
          have hs := HG.out i k (by omega)
          rw [Ex.out] at hs
          obtain ⟨y, ey⟩ : ∃ y, p.getD k 0 = y := ⟨_, rfl⟩
          rw [ey] at g2 hs
          have hSb : -1 ≤ S ∧ S ≤ 1 := hS.out ▸ sgnN_or _
          clear ey
          by_cases hxy : x < y
          · rw [if_pos hxy] at hs
            have e := hid (show -S = sgnN (invL (p.take i) + gtTo p i (k + 1)) by rw [hs, ← Nat.add_assoc, sgnN_succ, hS.out])
            clear hs
            go_wp2_with fail
            go_roundw
            case rel => exact ⟨k + 1, -S, by go_num, by go_num, by omega, e, hwi⟩
            case measure => simp [intOf]; omega
          · rw [if_neg hxy] at hs
            have e := hid (show S = sgnN (invL (p.take i) + gtTo p i (k + 1)) by rw [hs]; exact hS.out)
            clear hs
            go_wp2_with fail
            go_roundw
            case rel => exact ⟨k + 1, S, by go_num, rfl, by omega, e, hwi⟩
            case measure => simp [intOf]; omega
        · obtain rfl : k = i := by omega
          have e := hid (show S = sgnN (invL (p.take (k + 1))) by rw [HI.out k hlt]; exact hS.out)
          go_wp2_with fail
          go_roundw
          case rel => exact ⟨k + 1, S, by go_num, rfl, by omega, e, hw.trans hwi⟩
          case measure => simp [intOf]; omega
    · obtain rfl : n = i := by omega
      go_wp2_with fail
      go_ret
      exact ⟨ret_int (by rw [HS.out, hS.out]), hw⟩
set_option maxHeartbeats 400000 in
theorem askSign (v : Value) (p : List Int) (w : World) (hv : Ints .i64 w v p) : Calls Tryz.prog 137 #[v, .func (.func 138) #[] #[]] w (Ret (.tuple #[.int .i64 (if ordB p = true then sgnL p else 0), .int .i64 (if ordB p = true then 0 else 1)]) w) := by
  have C1 := qmRight v p w hv
  have C2 := hid fun (hB : ordB p = true) (W : World) (hW : Ext w W) => ordSign v p W (hv.ext hW) (ordB_iff.1 hB).1 (ordB_iff.1 hB).2.1
  cases hp : ordB p with
  | false =>
    rw [hp] at C1
    have C := hid C1
    clear C1 C2 hp
    go_enter Tryz.func137, Tryz.ntmps137
    go_wp2_with (go_at_call 157; refine C.out.mono ?_; rintro _ w1 ⟨rfl, x1⟩)
    go_ret2
    exact ⟨rfl, x1⟩
  | true =>
    rw [hp] at C1
    have C := hid C1
    have D := hid (C2.out hp)
    clear C1 C2 hp
    go_enter Tryz.func137, Tryz.ntmps137
    go_wp2_with (first
      | (go_at_call 157; refine C.out.mono ?_; rintro _ w1 ⟨rfl, x1⟩)
      | (go_at_call 138; refine (D.out _ x1).mono ?_; rintro _ w2 ⟨rfl, x2⟩))
    go_ret2
    exact ⟨rfl, x1.trans x2⟩
set_option maxHeartbeats 400000 in
theorem qmSign (v : Value) (p : List Int) (w : World) (hv : Ints .i64 w v p) : Calls Tryz.prog 112 #[v] w (Ret (.tuple #[.int .i64 (if ordB p = true then sgnL p else 0), .int .i64 (if ordB p = true then 0 else 1)]) w) := by
  have C := hid (askSign v p w hv)
  obtain ⟨a, ea⟩ : ∃ a, (if ordB p = true then sgnL p else 0) = a := ⟨_, rfl⟩
  obtain ⟨b, eb⟩ : ∃ b : Int, (if ordB p = true then 0 else 1) = b := ⟨_, rfl⟩
  rw [ea, eb] at C ⊢
  clear hv ea eb
  go_enter Tryz.func112, Tryz.ntmps112
  go_wp2_with (go_at_call 137; refine C.out.mono ?_; rintro _ w1 ⟨rfl, x1⟩)
  go_ret2
  exact ⟨rfl, x1⟩
end Go.Proofs.YthomeenmcajmdaaGreatDoor
namespace Go.Proofs.YthomeenmcajmdaaGreatDoor
open Go.RowKit Go.Maps
set_option maxRecDepth 100000 in
set_option maxHeartbeats 1000000 in
theorem mxOne_yes (n : Nat) (w : World) (hn : 1 ≤ n ∧ n ≤ 64) : Calls Tryz.prog 115 #[.int .i64 n] w (RetN n n (oneL n) w) := by
  have hs : sideB n = true := decide_eq_true (by omega)
  obtain ⟨Q, hQ⟩ : ∃ Q, n * n = Q := ⟨_, rfl⟩
  have hQb : Q ≤ 4096 := by rw [← hQ]; exact Nat.mul_le_mul hn.2 hn.2
  have HN := hid fun W : World => mxNoughts n n W hn.2 hn.2
  rw [hQ] at HN
  have HQ := hid hQ
  clear hQ
  have HR := hid (Blk.new w 26 #[.int .i64 0, .int .i64 0, .slice none 0 0])
  have hx0 : Ext w (w.alloc (.cells #[.int .i64 0, .int .i64 0, .slice none 0 0] 26)) := (Ext.refl w).alloc _
  have hR1 := HR.out.lt
  go_enter Tryz.func115, Tryz.ntmps115
  go_wp2_with (first | (go_at_call 92; refine (mxSide _ _).mono ?_; rintro _ _ ⟨rfl, rfl⟩) | fail)
  refine (HN.out _).mono ?_
  rintro _ w2 ⟨g, rfl, hg, hrow, x2⟩
  have HU := hid (Und.start (Q := Q) (r := (n : Int)) (c := (n : Int)) hg hrow List.length_replicate x2)
  unfold matV
  go_wp2_with fail
  obtain ⟨h, hh⟩ : ∃ h, w2.heap.size = h := ⟨_, rfl⟩
  obtain ⟨w3, hw3⟩ : ∃ w3, w2.alloc (.cells #[.int .i64 (n : Int), .int .i64 (n : Int), .slice (some ⟨g, 0, none⟩) Q Q] 26) = w3 := ⟨_, rfl⟩
  obtain ⟨w1, hw1⟩ : ∃ w1, w.alloc (.cells #[.int .i64 0, .int .i64 0, .slice none 0 0] 26) = w1 := ⟨_, rfl⟩
  rw [hw3, hh, hw1] at HU
  rw [hw1] at HR hx0 hR1
  rw [hw3, hh]
  obtain ⟨gR, hgR⟩ : ∃ gR, w.heap.size = gR := ⟨_, rfl⟩
  have hgw : w.heap.size ≤ gR := by omega
  rw [hgR] at HR hR1
  rw [hgR]
  clear hh hw3 hw1 hrow x2 hg hgR
  have HE := hid hx0
  go_loopw [14] (fun iv wr => ∃ (i : Nat) (l : List Int), iv = .int .i64 i ∧ i ≤ n ∧ Hid (Und w1 wr h g Q n n l) ∧ Hid (∀ a b, b < n → l.getD (a * n + b) 0 = if a = b ∧ a < i then 1 else 0)) (fun iv _ => n - (intOf iv).toNat)
  case atStart => exact ⟨0, _, rfl, Nat.zero_le _, HU, hid fun a b _ => by rw [replicate_get, if_neg (by omega)]⟩
  case round =>
    clear HU
    obtain ⟨i, l, rfl, hi, HU, hl⟩ := hrel
    obtain ⟨o0, o1, o2⟩ := HU.out.box.at3
    by_cases hlt : i < n
    · have hoQ : i * n + n ≤ Q := by rw [← HQ.out, ← Nat.succ_mul]; exact Nat.mul_le_mul_right _ hlt
      go_wp2_with fail
      refine (mxRow (n : Int) (n : Int) n i g 0 Q Q wr rfl hn (by omega) hoQ (by omega)).mono ?_
      rintro _ w5 ⟨rfl, x5⟩
      rw [Nat.zero_add]
      obtain ⟨o, ho⟩ : ∃ o, i * n = o := ⟨_, rfl⟩
      obtain ⟨cp, hcp⟩ : ∃ cp, Q - o = cp := ⟨_, rfl⟩
      rw [ho] at hoQ
      rw [ho, hcp]
      have hcpn : n ≤ cp := by omega
      have hcpb : cp ≤ 9223372036854775807 := by omega
      obtain ⟨t, ht⟩ : ∃ t, o + i = t := ⟨_, rfl⟩
      have htQ : t < Q := by omega
      have Ht := hid (show i * n + i = t by omega)
      clear ho hcp o0 o1 o2
      obtain ⟨gt, ft⟩ := (HU.out.ext' x5).at_ htQ
      go_wp2_with fail
      go_roundw
      case rel =>
        refine ⟨i + 1, l.set t 1, by go_num, by omega, hid ((HU.out.ext' x5).put htQ 1), hid fun a b hb => ?_⟩
        rw [← Ht.out, put_at 1 hlt hb (by rw [Ht.out, HU.out.len]; exact htQ), hl.out a b hb]
        by_cases e : a = i ∧ b = i
        · rw [if_pos e, if_pos (by omega)]
        · rw [if_neg e]
          by_cases e2 : a = b ∧ a < i
          · rw [if_pos e2, if_pos (by omega)]
          · rw [if_neg e2, if_neg (by omega)]
      case measure => simp [intOf]; omega
    · obtain rfl : n = i := by omega
      have hRr := HR.out.ext HU.out.ext
      obtain ⟨r0, r1, r2⟩ := hRr.at3
      have f0 := hRr.frozen 0
      have f1 := hRr.frozen 1
      have f2 := hRr.frozen 2
      have FF := hid (HU.out.fin hRr hR1 (HE.out.trans HU.out.ext) hgw (by omega))
      clear hRr
      go_wp2_with fail
      refine bodyPost_ret (results_cell_row_tmp rfl _ _ gR 26 _ (0, 0) _ rfl FF.out.1 Tryz.underlying26 rfl (by kernel_rfl)) rfl ?_
      have e : l = oneL n := grid_of (by rw [HU.out.len, HQ.out]) fun a b ha hb => by
        rw [hl.out a b hb]
        by_cases e : a = b
        · rw [if_pos e, if_pos ⟨e, ha⟩]
        · rw [if_neg e, if_neg (fun h => e h.1)]
      exact ⟨_, rfl, e ▸ FF.out.2.1, FF.out.2.2⟩
end Go.Proofs.YthomeenmcajmdaaGreatDoor
namespace Go.Proofs.YthomeenmcajmdaaGreatDoor
open Go.RowKit Go.Maps
theorem MatOk.turn {p : Int} {m n : Nat} {xs : List Int} (h : MatOk p m n xs) : MatOk p n m (turnL m n xs) :=
  ⟨h.hp, turnL_rng (rightB_true h.hp).1 h.hx m n, h.hn, h.hm, turnL_len m n xs⟩
theorem boxesM3 (w : World) (t : TypeId) (A B C : Array Value) :
    Blk (((w.alloc (.cells A t)).alloc (.cells B t)).alloc (.cells C t)) w.heap.size t A ∧ Blk (((w.alloc (.cells A t)).alloc (.cells B t)).alloc (.cells C t)) (w.heap.size + 1) t B ∧
    Blk (((w.alloc (.cells A t)).alloc (.cells B t)).alloc (.cells C t)) (w.heap.size + 1 + 1) t C ∧ Ext w (((w.alloc (.cells A t)).alloc (.cells B t)).alloc (.cells C t)) :=
  ⟨(Blk.new w t A).ext (((Ext.refl _).alloc _).alloc _), (Blk.at_ (by rw [alloc_size])).ext ((Ext.refl _).alloc _), Blk.at_ (by rw [alloc_size, alloc_size]), (((Ext.refl w).alloc _).alloc _).alloc _⟩
end Go.Proofs.YthomeenmcajmdaaGreatDoor
namespace Go.Proofs.YthomeenmcajmdaaGreatDoor
open Go.RowKit Go.Maps
end Go.Proofs.YthomeenmcajmdaaGreatDoor
namespace Go.Proofs.YthomeenmcajmdaaGreatDoor
open Go.RowKit Go.Maps
def RetMW (r c : Int) (l : List Int) (w : World) (e : Ending) (w' : World) : Prop := ∃ g, e = .returned (.tuple #[matV r c (.slice (some ⟨g, 0, none⟩) l.length l.length), .int .i64 0]) ∧ w.heap.size ≤ g ∧ WRow w' g 0 l ∧ Ext w w'
theorem RetMW.plain {r c : Int} {l : List Int} {w w' : World} {e : Ending} (hl : l.length ≤ 9223372036854775807) (h : RetMW r c l w e w') : RetN r c l w e w' := by
  obtain ⟨g, rfl, _, h2, h3⟩ := h
  exact ⟨_, rfl, h2.ints' rfl (Nat.le_refl _) hl, h3⟩
set_option maxRecDepth 100000 in
set_option maxHeartbeats 2000000 in
theorem mxMulW (p : Int) (m n q : Nat) (v u : Value) (xs ys : List Int) (w : World) (ok : MatOk p m n xs) (oky : MatOk p n q ys) (hv : Ints .u64 w v xs) (hu : Ints .u64 w u ys) :
    Calls Tryz.prog 86 #[.int .u64 p, matV m n v, matV n q u] w (RetMW m q (mulL p m n q xs ys) w) := by
  have hp2 := rightB_true ok.hp
  have hb3 := hid (boxesM3 w 26 #[.int .i64 (m : Int), .int .i64 (n : Int), v] #[.int .i64 (n : Int), .int .i64 (q : Int), u] #[.int .i64 0, .int .i64 0, .slice none 0 0])
  have C1 := hid fun (W : World) (hW : Ext w W) => mxTurn_yes p n q u ys W oky (hu.ext hW)
  have C2 := hid fun (W : World) (hW : Ext w W) => mxRight p m n v xs W (by omega) (by omega) (hv.ext hW) ok.u64
  rw [ok.b] at C2
  have Ok := hid ok; have Oky := hid oky; have Hv := hid hv
  have Okt := hid oky.turn
  have hm := ok.hm; have hn := ok.hn; have hq := oky.hn
  obtain ⟨a, cap, rfl, k1, k2, k3⟩ := hv
  obtain ⟨b, off, rfl, hb, k4⟩ := k3 ok.pos
  obtain ⟨a', cap', rfl, m1, m2, m3⟩ := hu
  have hcap := hid fun (i : Nat) (h : i < m) => Nat.le_trans (ok.at_ h) k1
  clear k3 k4 m3 ok oky
  obtain ⟨Q, hQ⟩ : ∃ Q, m * q = Q := ⟨_, rfl⟩
  have hQb : Q ≤ 4096 := by rw [← hQ]; exact Nat.mul_le_mul hm.2 hq.2
  have HN := hid fun W : World => mxNoughts m q W hm.2 hq.2
  rw [hQ] at HN
  have HQ := hid hQ
  clear hQ
  obtain ⟨F, hF⟩ : ∃ F : Nat → Nat → Int, (fun i k => dv p n (fun j => xs.getD (i * n + j) 0) fun j => ys.getD (j * q + k) 0) = F := ⟨_, rfl⟩
  have HF := hid (fun i k => (congrFun (congrFun hF i) k : dv p n (fun j => xs.getD (i * n + j) 0) (fun j => ys.getD (j * q + k) 0) = F i k))
  unfold mulL
  rw [hF]
  clear hF
  unfold matV at C1 C2
  unfold matV
  go_enter Tryz.func86, Tryz.ntmps86
  go_wp2_with (first
    | (go_at_call 110; refine (C1.out _ (by repeat (first | exact Ext.refl _ | assumption | refine Ext.drew ?_ | refine Ext.drewN ?_ _ | refine Ext.alloc ?_ _ | refine Ext.trans ?_ (by assumption)))).mono ?_; rintro _ w1 ⟨u1, rfl, hI, x1⟩; have HI := hid hI; obtain ⟨a1, cap1, rfl, l1, l2, l3⟩ := hI; obtain ⟨b1, off1, rfl, hb1, l4⟩ := l3 Okt.out.pos; clear l3 l4; try unfold matV
       have y1 := (Ext.refl w1).alloc (.cells #[.int .i64 (q : Int), .int .i64 (n : Int), .slice (some ⟨b1, off1, none⟩) (turnL n q ys).length cap1] 26)
       have z1 := x1.trans y1
       have HA := hid (hb3.out.1.ext z1); have HB := hid (hb3.out.2.1.ext z1); have HR := hid (hb3.out.2.2.1.ext z1); have HE := hid (hb3.out.2.2.2.trans z1)
       have HT := hid (Blk.new w1 26 #[.int .i64 (q : Int), .int .i64 (n : Int), .slice (some ⟨b1, off1, none⟩) (turnL n q ys).length cap1])
       obtain ⟨b0, b1', b2⟩ := HA.out.at3)
    | (go_at_call 27; refine (C2.out _ HE.out).mono ?_; rintro _ w2 ⟨rfl, x2⟩
       obtain ⟨a0, a1, a2⟩ := (HA.out.ext x2).at3
       obtain ⟨c0, c1, c2⟩ := (HB.out.ext x2).at3)
    | fail)
  refine (HN.out _).mono ?_
  rintro _ w3 ⟨g, rfl, hg, hrow, x3⟩
  have HU := hid (Und.start (Q := Q) (r := (m : Int)) (c := (q : Int)) hg hrow List.length_replicate x3)
  unfold matV
  have y3 := x3.alloc (.cells #[.int .i64 (m : Int), .int .i64 (q : Int), .slice (some ⟨g, 0, none⟩) Q Q] 26)
  have b3 := (HA.out.ext (x2.trans y3)).at3
  clear b0 b1' b2 a0 a1 a2 c0 c1 c2
  obtain ⟨b0, b1', b2⟩ := b3
  go_wp2_with fail
  obtain ⟨h, hh⟩ : ∃ h, w3.heap.size = h := ⟨_, rfl⟩
  obtain ⟨w4, hw4⟩ : ∃ w4, w3.alloc (.cells #[.int .i64 (m : Int), .int .i64 (q : Int), .slice (some ⟨g, 0, none⟩) Q Q] 26) = w4 := ⟨_, rfl⟩
  rw [hw4, hh] at HU
  rw [hw4, hh]
  replace HA := hid (HA.out.ext x2); replace HR := hid (HR.out.ext x2); replace HT := hid (HT.out.ext x2); replace HE := hid (HE.out.trans x2)
  have HI2 := hid (HI.out.ext (y1.trans x2))
  have hb1' : b1 < w2.heap.size := Nat.lt_of_lt_of_le hb1 (y1.trans x2).size
  have hR1 := HR.out.lt
  have hA1 := HA.out.lt
  have hT1 := HT.out.lt
  obtain ⟨hT, hhT⟩ : ∃ hT, w1.heap.size = hT := ⟨_, rfl⟩
  rw [hhT] at HT hT1
  rw [hhT]
  clear hh hw4 b0 b1' b2 hrow x3 y3 hg y1 z1 x1 hb1 hhT HB HI
  obtain ⟨gR, hgR⟩ : ∃ gR, w.heap.size + 1 + 1 = gR := ⟨_, rfl⟩
  have hgw : w.heap.size ≤ gR := by omega
  rw [hgR] at HR hR1
  rw [hgR]
  obtain ⟨gB, hgB⟩ : ∃ gB, w.heap.size + 1 = gB := ⟨_, rfl⟩
  rw [hgB]
  obtain ⟨gA, hgA⟩ : ∃ gA, w.heap.size = gA := ⟨_, rfl⟩
  rw [hgA] at HA hA1
  rw [hgA]
  clear hgR hgB hgA hb3
  have HLT := hid l1
  have hcapT := hid fun (j : Nat) (h : j < q) => Nat.le_trans (Okt.out.at_ h) l1
  go_loopw [43] (fun iv wr => ∃ (i : Nat) (l : List Int), iv = .int .i64 i ∧ i ≤ m ∧ Hid (Und w2 wr h g Q m q l) ∧ Hid (∀ a b, b < q → a < i → l.getD (a * q + b) 0 = F a b)) (fun iv _ => m - (intOf iv).toNat)
  case atStart => exact ⟨0, _, rfl, Nat.zero_le _, HU, hid (by omega)⟩
  case round =>
    clear HU
    obtain ⟨i, l, rfl, hi, HU, hl⟩ := hrel
    obtain ⟨b0, b1', b2⟩ := (HA.out.ext HU.out.ext).at3
    obtain ⟨o0, o1, o2⟩ := HU.out.box.at3
    by_cases hlt : i < m
    · have hck := hcap.out i hlt
      go_wp2_with fail
      refine (mxRow (m : Int) (q : Int) q i g 0 Q Q wr rfl hq (by omega) (by rw [← HQ.out, ← Nat.succ_mul]; exact Nat.mul_le_mul_right _ hlt) (by omega)).mono ?_
      rintro _ w5 ⟨rfl, x5⟩
      rw [Nat.zero_add]
      have hoQ : i * q + q ≤ Q := by rw [← HQ.out, ← Nat.succ_mul]; exact Nat.mul_le_mul_right _ hlt
      obtain ⟨o, ho⟩ : ∃ o, i * q = o := ⟨_, rfl⟩
      obtain ⟨cp, hcp⟩ : ∃ cp, Q - o = cp := ⟨_, rfl⟩
      rw [ho] at hoQ
      rw [ho, hcp]
      have hcpn : q ≤ cp := by omega
      have hcpb : cp ≤ 9223372036854775807 := by omega
      have Ho := hid ho
      clear ho hcp b0 b1' b2 o0 o1 o2
      go_wp2_with fail
      go_loopw [51] (fun jv wr => ∃ (j : Nat) (l : List Int), jv = .int .i64 j ∧ j ≤ q ∧ Hid (Und w2 wr h g Q m q l) ∧ Hid (∀ a b, b < q → (a < i ∨ a = i ∧ b < j) → l.getD (a * q + b) 0 = F a b)) (fun jv _ => q - (intOf jv).toNat)
      case atStart => exact ⟨0, l, rfl, Nat.zero_le _, hid (HU.out.ext' x5), hid fun a b hb ha => hl.out a b hb (by omega)⟩
      case round =>
        clear HU hl
        obtain ⟨j, l, rfl, hj, HU, hl⟩ := hrel
        rename World => wi
        by_cases hlj : j < q
        · obtain ⟨z, hz⟩ : ∃ z, F i j = z := ⟨_, rfl⟩
          have hdot : dotZ (piece xs i n) (piece (turnL n q ys) j n) % p = z := by
            rw [dot_piece (Ok.out.at_ hlt) (piece_len (Okt.out.at_ hlj)), ← hz, ← HF.out i j]
            exact dv_congr (fun _ _ => rfl) fun k hk => by rw [piece_get _ _ _ _ hk, turnL, grid_get _ hlj hk]
          have Hdot := hid hdot
          have Hz := hid hz
          clear hz hdot
          have hcT := hcapT.out j hlj
          obtain ⟨t, ht⟩ : ∃ t, o + j = t := ⟨_, rfl⟩
          have htQ : t < Q := by omega
          have Ht := hid (show i * q + j = t by rw [Ho.out]; exact ht)
          have fs := hid (fun (W : World) (hW : Ext wi W) => And.intro ((HA.out.ext (HU.out.ext.trans hW)).at3) ((HT.out.ext (HU.out.ext.trans hW)).at3))
          have fs2 := hid (fun (W : World) (hW : Ext wi W) (x : Value) => And.intro (((HA.out.ext (HU.out.ext.trans hW)).grown (setCell_grown W ⟨g, t, none⟩ x) (fun e => absurd (show g = gA by injection e) (by have := HU.out.hg; omega))).at3) (((HT.out.ext (HU.out.ext.trans hW)).grown (setCell_grown W ⟨g, t, none⟩ x) (fun e => absurd (show g = hT by injection e) (by have := HU.out.hg; omega))).at3))
          have hjQ : (j : Int) < (q : Int) := by omega
          have hj0 : (0 : Int) ≤ (j : Int) := by omega
          go_wp2_with fail
          go_region_held3 (fun w' => (w'.cell? ⟨gA, 0, none⟩ = some (.int .i64 (m : Int)) ∧ w'.cell? ⟨gA, 1, none⟩ = some (.int .i64 (n : Int)) ∧ w'.cell? ⟨gA, 2, none⟩ = some (.slice (some ⟨b, off, none⟩) xs.length cap)) ∧ w'.cell? ⟨hT, 0, none⟩ = some (.int .i64 (q : Int)) ∧ w'.cell? ⟨hT, 1, none⟩ = some (.int .i64 (n : Int)) ∧ w'.cell? ⟨hT, 2, none⟩ = some (.slice (some ⟨b1, off1, none⟩) (turnL n q ys).length cap1)) (first | assumption | exact fs.out _ ((Ext.refl wi).drew) | exact fs.out _ (by assumption) | exact fs2.out _ (by assumption) _)
            ((first
              | (go_at_call_of 47 b; refine (mxRow (m : Int) (n : Int) n i b off xs.length cap _ rfl hn (by omega) hck k2).mono ?_; rintro _ w6 ⟨rfl, x6⟩; have y6 : Ext wi w6 := Ext.trans (by first | exact (Ext.refl wi).drew | assumption) x6)
              | (go_at_call_of 47 b1; refine (mxRow (q : Int) (n : Int) n j b1 off1 (turnL n q ys).length cap1 _ rfl hn (by omega) hcT l2).mono ?_; rintro _ w7 ⟨rfl, x7⟩; have y7 : Ext wi w7 := Ext.trans (by first | exact (Ext.refl wi).drew | assumption) x7)
              | (go_at_call 46
                 refine (dot_as p z _ _ (piece xs i n) (piece (turnL n q ys) j n) _ ((Hv.out.ext (HE.out.trans (HU.out.ext.trans y7))).sub (i * n) n (Ok.out.at_ hlt) hn.1) ((HI2.out.ext (HU.out.ext.trans y7)).sub (j * n) n (Okt.out.at_ hlj) hn.1) ((piece_rng Ok.out.hx i n).u64 hp2.2) ((piece_rng Okt.out.hx j n).u64 hp2.2) (by rw [piece_len (Ok.out.at_ hlt), piece_len (Okt.out.at_ hlj)]) ((piece_rng Ok.out.hx i n).has Ok.out.hp) ((piece_rng Okt.out.hx j n).has Ok.out.hp) Hdot.out).mono ?_
                 rintro _ w8 ⟨rfl, x8⟩
                 have y8 : Ext wi w8 := y7.trans x8
                 have HU8 := hid (HU.out.ext' y8)
                 obtain ⟨gt, ft⟩ := HU8.out.at_ htQ)))
          go_wp2_with fail
          go_roundw
          case rel =>
            refine ⟨j + 1, l.set t z, by go_num, by omega, hid (HU8.out.put htQ z), hid fun a b hb ha => ?_⟩
            rw [← Ht.out, put_at z hlj hb (by rw [Ht.out, HU.out.len]; exact htQ)]
            by_cases e : a = i ∧ b = j
            · rw [if_pos e, e.1, e.2]; exact Hz.out.symm
            · rw [if_neg e]; exact hl.out a b hb (by omega)
          case measure => simp [intOf]; omega
        · obtain rfl : q = j := by omega
          go_wp2_with fail
          go_roundw
          case rel => exact ⟨i + 1, l, by go_num, by omega, HU, hid fun a b hb ha => hl.out a b hb (by omega)⟩
          case measure => simp [intOf]; omega
    · obtain rfl : m = i := by omega
      have hRr := HR.out.ext HU.out.ext
      obtain ⟨r0, r1, r2⟩ := hRr.at3
      have f0 := hRr.frozen 0
      have f1 := hRr.frozen 1
      have f2 := hRr.frozen 2
      have FF := hid (HU.out.fin hRr hR1 (HE.out.trans HU.out.ext) hgw (by omega))
      clear hRr
      go_wp2_with fail
      refine bodyPost_ret (results_cell_row_tmp rfl _ _ gR 26 _ (0, 0) _ rfl FF.out.1 Tryz.underlying26 rfl (by kernel_rfl)) rfl ?_
      have e : l = grid m q _ := grid_of (by rw [HU.out.len, HQ.out]) fun a b ha hb => hl.out a b hb ha
      have hne : g ≠ gR := by have := HU.out.hg; omega
      have hwg : w.heap.size ≤ g := Nat.le_trans HE.out.size HU.out.hg
      rw [← e]
      exact ⟨g, by rw [HU.out.len]; rfl, hwg, ((HU.out.row.set_other hne).set_other hne).set_other hne, FF.out.2.2⟩
theorem mxMul_yes (p : Int) (m n q : Nat) (v u : Value) (xs ys : List Int) (w : World) (ok : MatOk p m n xs) (oky : MatOk p n q ys) (hv : Ints .u64 w v xs) (hu : Ints .u64 w u ys) :
    Calls Tryz.prog 86 #[.int .u64 p, matV m n v, matV n q u] w (RetN m q (mulL p m n q xs ys) w) :=
  (mxMulW p m n q v u xs ys w ok oky hv hu).mono fun _ _ h => h.plain (by
    have : (mulL p m n q xs ys).length = m * q := tab_len _ _
    have := Nat.mul_le_mul ok.hm.2 oky.hn.2
    omega)
end Go.Proofs.YthomeenmcajmdaaGreatDoor
