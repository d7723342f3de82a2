/- What the texts Ref02, Sort show, in one text. -/
import Derived.Test.YthomeenmcajmdaaDoorBun04
import Derived.Test.YthomeenmcajmdaaDoorPKit
import Derived.Test.YthomeenmcajmdaaDoorBun02
/- What the document's own answers for layer 2 are: Is, Short, Same. -/
namespace Go.Proofs.YthomeenmcajmdaaDoor
open Go.RowKit Go.Maps

/-- a list that isn't too much for a look -/
def shortB (l : List Prf) : Bool := decide (l.length ≤ 40) && l.all fun f => decide (f.parts.length ≤ 30)

end Go.Proofs.YthomeenmcajmdaaDoor
/- slices.Sort of at most twelve numbers. -/
namespace Go.Proofs.YthomeenmcajmdaaDoor
open Go.RowKit

theorem isNaN_any (a : Int) (w : World) : Calls Tryd.prog 57 #[.int .u64 a] w fun e w' => e = .returned (.bool false) ∧ w = w' := by
  go_enter Tryd.func57, Tryd.ntmps57
  go_wp2_with fail
  go_ret
  exact ⟨ret_bool (by simp), rfl⟩
set_option maxHeartbeats 400000 in
theorem less64_any (a b : Int) (w : World) : Calls Tryd.prog 46 #[.int .u64 a, .int .u64 b] w fun e w' => e = .returned (.bool (decide (a < b))) ∧ w = w' := by
  go_enter Tryd.func46, Tryd.ntmps46
  go_wp2_with (go_at_call 57; refine (isNaN_any _ _).mono ?_; rintro _ w1 ⟨rfl, rfl⟩)
  go_ret
  exact ⟨ret_bool (by simp), rfl⟩

/-- two neighbours change places -/
def swapD (zs : List Int) (j : Nat) : List Int := (zs.set j (zs.getD (j - 1) 0)).set (j - 1) (zs.getD j 0)
theorem swapD_length (zs : List Int) (j : Nat) : (swapD zs j).length = zs.length := by simp [swapD]
theorem swapD_get {zs : List Int} {j : Nat} (hj : 1 ≤ j) (hl : j < zs.length) (k : Nat) : (swapD zs j).getD k 0 = if k = j - 1 then zs.getD j 0 else if k = j then zs.getD (j - 1) 0 else zs.getD k 0 := by
  simp only [swapD, List.getD, List.getElem?_set, List.length_set]
  grind
theorem swapD_perm : ∀ (zs : List Int) (j : Nat), 1 ≤ j → j < zs.length → (swapD zs j).Perm zs
  | [], j, _, h => by simp at h
  | x :: zs, 1, _, h => by
    match zs, h with
    | y :: r, _ => exact List.Perm.swap _ _ _
  | x :: zs, j + 2, _, h => by
    have := swapD_perm zs (j + 1) (by omega) (by simp only [List.length_cons] at h; omega)
    simpa [swapD] using this.cons x

/-- a block whose first cells are the numbers zs -/
def NumBlk (w : World) (g : Nat) (t : TypeId) (zs : List Int) (rest : List Value) : Prop := Blk w g t ((zs.map (Value.int .u64)) ++ rest).toArray
theorem NumBlk.cell {w : World} {g : Nat} {t : TypeId} {zs : List Int} {rest : List Value} (h : NumBlk w g t zs rest) {k : Nat} (hk : k < zs.length) : w.cell? ⟨g, k, none⟩ = some (.int .u64 (zs.getD k 0)) := by
  have := Blk.cell h k
  rw [this]
  simp [List.getElem?_append, hk, List.getD]
theorem NumBlk.frozen {w : World} {g : Nat} {t : TypeId} {zs : List Int} {rest : List Value} (h : NumBlk w g t zs rest) (k : Nat) : w.frozen? ⟨g, k, none⟩ = false := Blk.frozen h k
theorem NumBlk.set_ {w : World} {g : Nat} {t : TypeId} {zs : List Int} {rest : List Value} (h : NumBlk w g t zs rest) {k : Nat} (hk : k < zs.length) (x : Int) : NumBlk (w.setCell ⟨g, k, none⟩ (.int .u64 x)) g t (zs.set k x) rest := by
  have := Blk.set_ h k (.int .u64 x)
  unfold NumBlk
  rw [List.map_set]
  have e : ((zs.map (Value.int .u64) ++ rest).toArray.setIfInBounds k (.int .u64 x)) = ((zs.map (Value.int .u64)).set k (.int .u64 x) ++ rest).toArray := by
    simp [hk]
  rw [← e]
  exact this
theorem NumBlk.drewN {w : World} {g : Nat} {t : TypeId} {zs : List Int} {rest : List Value} (h : NumBlk w g t zs rest) (n : Nat) : NumBlk (w.drewN n) g t zs rest := h
theorem NumBlk.swap {w : World} {g : Nat} {t : TypeId} {zs : List Int} {rest : List Value} (h : NumBlk w g t zs rest) {j : Nat} (h1 : 1 ≤ j) (hj : j < zs.length) :
    NumBlk ((w.setCell ⟨g, j, none⟩ (.int .u64 (zs.getD (j - 1) 0))).setCell ⟨g, j - 1, none⟩ (.int .u64 (zs.getD j 0))) g t (swapD zs j) rest :=
  (h.set_ hj _).set_ (by rw [List.length_set]; omega) _

theorem grown_drewN {w w' : World} {g : Nat} (h : w.grownBy w' (some g)) (n : Nat) : w.grownBy (w'.drewN n) (some g) := ⟨h.os, h.tape, h.output, h.size, h.block⟩
theorem grown_set {w w' : World} {g : Nat} (h : w.grownBy w' (some g)) (i : Nat) (u : Value) : w.grownBy (w'.setCell ⟨g, i, none⟩ u) (some g) :=
  ⟨h.os, h.tape, h.output, by simpa [World.setCell] using h.size, fun k hk hne => (Below.heap_setCell w' ⟨g, i, none⟩ u k (fun e => hne (by rw [e]))).trans (h.block k hk hne)⟩

set_option maxRecDepth 100000 in
set_option maxHeartbeats 2000000 in
theorem insertion_any (g cap : Nat) (t : TypeId) (xs : List Int) (rest : List Value) (w : World) (hb : NumBlk w g t xs rest) (hl : xs.length ≤ 12) :
    Calls Tryd.prog 40 #[.slice (some ⟨g, 0, none⟩) xs.length cap, .int .i64 0, .int .i64 (xs.length : Int)] w
      fun e w' => (∃ v, e = .returned v) ∧ ∃ zs, NumBlk w' g t zs rest ∧ zs.Perm xs ∧ zs.Pairwise (· ≤ ·) ∧ w.grownBy w' (some g) := by
  go_enter Tryd.func40, Tryd.ntmps40
  go_wp2_with fail
  go_loopw [6] (fun i wr => ∃ (k : Nat) (zs : List Int), i = .int .i64 k ∧ 1 ≤ k ∧ (k ≤ xs.length ∨ k = 1) ∧ NumBlk wr g t zs rest ∧ zs.Perm xs ∧ (∀ a b, a < b → b < k → b < zs.length → zs.getD a 0 ≤ zs.getD b 0) ∧ w.grownBy wr (some g)) (fun i _ => xs.length - (intOf i).toNat)
  case atStart => exact ⟨1, xs, rfl, by omega, .inr rfl, hb, List.Perm.refl _, fun a b h1 h2 => by omega, World.grownBy.refl w _⟩
  case round =>
    obtain ⟨k, zs, rfl, hk1, hk, hz, hp, hs, hg⟩ := hrel
    have hlen := hp.length_eq
    have HZ := hid hz; have HP := hid hp; have HS := hid hs; have HG := hid hg
    clear hz hp hs hg
    by_cases hlt : k < xs.length
    · go_wp2_with fail
      go_loopw [7] (fun i wi => ∃ (j : Nat) (ys : List Int), i = .int .i64 j ∧ j ≤ k ∧ NumBlk wi g t ys rest ∧ ys.Perm xs ∧ (∀ a b, a < b → b ≤ k → a ≠ j → b ≠ j → ys.getD a 0 ≤ ys.getD b 0) ∧
        (∀ b, j < b → b ≤ k → ys.getD j 0 ≤ ys.getD b 0) ∧ w.grownBy wi (some g)) (fun i _ => (intOf i).toNat)
      case atStart => exact ⟨k, zs, rfl, by omega, HZ.out, HP.out, fun a b h1 h2 h3 h4 => HS.out a b h1 (by omega) (by omega), fun b h1 h2 => by omega, HG.out⟩
      case round =>
        obtain ⟨j, ys, rfl, hj, hz, hp, hA, hB, hg⟩ := hrel
        have hlen2 := hp.length_eq
        have HZ2 := hid hz; have HP2 := hid hp; have HA := hid hA; have HB := hid hB; have HG2 := hid hg
        clear hz hp hA hB hg HZ HP HS HG
        rcases Nat.eq_zero_or_pos j with rfl | hpos
        · go_wp2_with fail
          go_quiet (fail)
          go_wp2_with fail
          go_roundw
          case rel => exact ⟨k + 1, ys, by go_num, by omega, by omega, HZ2.out.drewN _, HP2.out, fun a b h1 h2 h3 => by
            by_cases e : a = 0
            · subst e; exact HB.out b h1 (by omega)
            · exact HA.out a b h1 (by omega) e (by omega), grown_drewN HG2.out _⟩
          case measure => simp [intOf]; omega
        · obtain ⟨m, rfl⟩ : ∃ m, j = m + 1 := ⟨j - 1, by omega⟩
          have c1 := HZ2.out.cell (k := m + 1) (by omega)
          have c2 := HZ2.out.cell (k := m) (by omega)
          have f1 := HZ2.out.frozen (m + 1)
          have f2 := HZ2.out.frozen m
          have hsw := hid (fun n => (HZ2.out.drewN n).swap (j := m + 1) (by omega) (by omega))
          have hsg := hid (fun k => swapD_get (zs := ys) (j := m + 1) (by omega) (by omega) k)
          have hsp := hid (swapD_perm ys (m + 1) (by omega) (by omega))
          simp only [Nat.add_sub_cancel] at hsw hsg
          obtain ⟨y1, e1⟩ : ∃ y, ys.getD (m + 1) 0 = y := ⟨_, rfl⟩
          obtain ⟨y2, e2⟩ : ∃ y, ys.getD m 0 = y := ⟨_, rfl⟩
          rw [e1] at c1 hsw; rw [e2] at c2 hsw
          have E1 := hid e1; have E2 := hid e2
          clear e1 e2
          by_cases hlt2 : y1 < y2
          · have hd : decide (y1 < y2) = true := by simpa using hlt2
            go_wp2_with fail
            go_quiet ((go_at_call 46; exact quiet_l (less64_any _ _ _)))
            go_wp2_with fail
            go_region
            go_wp2_with fail
            go_roundw
            case rel =>
              have hle := hlt2
              exact ⟨m, swapD ys (m + 1), by go_num, by omega, hsw.out _, hsp.out.trans HP2.out, fun a b h1 h2 h3 h4 => by
                rw [hsg.out, hsg.out, if_neg h3, if_neg h4]
                by_cases ea : a = m + 1
                · rw [if_pos ea, if_neg (by omega)]
                  exact HA.out m b (by omega) h2 (by omega) (by omega)
                · rw [if_neg ea]
                  by_cases eb : b = m + 1
                  · rw [if_pos eb]
                    exact HA.out a m (by omega) (by omega) (by omega) (by omega)
                  · rw [if_neg eb]
                    exact HA.out a b h1 h2 (by omega) (by omega), fun b h1 h2 => by
                rw [hsg.out, hsg.out, if_pos rfl, if_neg (by omega)]
                by_cases eb : b = m + 1
                · rw [if_pos eb, E1.out, E2.out]; omega
                · rw [if_neg eb]
                  exact HB.out b (by omega) h2, grown_set (grown_set (grown_drewN HG2.out _) _ _) _ _⟩
            case measure => simp [intOf]
          · have hd : decide (y1 < y2) = false := by simpa using hlt2
            go_wp2_with fail
            go_quiet ((go_at_call 46; exact quiet_l (less64_any _ _ _)))
            go_wp2_with fail
            go_roundw
            case rel => exact ⟨k + 1, ys, by go_num, by omega, by omega, HZ2.out.drewN _, HP2.out, fun a b h1 h2 h3 => by
              have h12 : ys.getD m 0 ≤ ys.getD (m + 1) 0 := by rw [E1.out, E2.out]; omega
              by_cases ea : a = m + 1
              · subst ea; exact HB.out b h1 (by omega)
              · by_cases eb : b = m + 1
                · subst eb
                  by_cases em : a = m
                  · subst em; exact h12
                  · exact Int.le_trans (HA.out a m (by omega) (by omega) ea (by omega)) h12
                · exact HA.out a b h1 (by omega) ea eb, grown_drewN HG2.out _⟩
            case measure => simp [intOf]; omega
    · go_wp2_with fail
      go_end0
      refine ⟨⟨_, rfl⟩, zs, HZ.out, HP.out, ?_, HG.out⟩
      rw [List.pairwise_iff_getElem]
      intro a b ha hb2 hab
      have := HS.out a b hab (by omega) hb2
      simpa [List.getD, List.getElem?_eq_getElem ha, List.getElem?_eq_getElem hb2] using this

set_option maxRecDepth 100000 in
set_option maxHeartbeats 1000000 in
theorem pdq_any (g cap : Nat) (t : TypeId) (xs : List Int) (rest : List Value) (l : Int) (w : World) (hb : NumBlk w g t xs rest) (hl : xs.length ≤ 12) :
    Calls Tryd.prog 35 #[.slice (some ⟨g, 0, none⟩) xs.length cap, .int .i64 0, .int .i64 (xs.length : Int), .int .i64 l] w
      fun e w' => (∃ v, e = .returned v) ∧ ∃ zs, NumBlk w' g t zs rest ∧ zs.Perm xs ∧ zs.Pairwise (· ≤ ·) ∧ w.grownBy w' (some g) := by
  have HB := hid hb; clear hb
  go_enter Tryd.func35, Tryd.ntmps35
  go_wp2_with fail
  refine wp_loop_rounds 1 ?_
  rw [rounds_succ]
  go_wp2_with fail
  refine (insertion_any g cap t xs rest _ HB.out hl).mono ?_; rintro _ w1 ⟨⟨v, rfl⟩, zs, h1, h2, h3, h4⟩
  have H1 := hid h1; have H2 := hid h2; have H3 := hid h3; have H4 := hid h4
  clear h1 h2 h3 h4
  go_wp2_with fail
  (try simp only [Exit.inBlock, Exit.then])
  refine bodyPost_ret (results_none rfl _ _ _) rfl ?_
  exact ⟨⟨_, rfl⟩, zs, H1.out, H2.out, H3.out, H4.out⟩

theorem bitsLen_any (x : Int) (w : World) (hx0 : 0 ≤ x) (hx : x ≤ 18446744073709551615) :
    Calls Tryd.prog 36 #[.int .u64 x] w fun e w' => e = .returned (.int .i64 (bitLen x.toNat)) ∧ w = w' := by
  go_enter Tryd.func36, Tryd.ntmps36
  go_wp2_with (go_at_call 50; refine (len64_any _ _ hx0 hx).mono ?_; rintro e w' ⟨rfl, rfl⟩)
  go_ret
  exact ⟨rfl, rfl⟩

set_option maxHeartbeats 400000 in
theorem sort_any (g cap : Nat) (t : TypeId) (xs : List Int) (rest : List Value) (w : World) (hb : NumBlk w g t xs rest) (hl : xs.length ≤ 12) :
    Calls Tryd.prog 26 #[.slice (some ⟨g, 0, none⟩) xs.length cap] w
      fun e w' => (∃ v, e = .returned v) ∧ ∃ zs, NumBlk w' g t zs rest ∧ zs.Perm xs ∧ zs.Pairwise (· ≤ ·) ∧ w.grownBy w' (some g) := by
  have HB := hid hb; clear hb
  go_enter Tryd.func26, Tryd.ntmps26
  go_wp2_with (first
    | (go_at_call 36; refine (bitsLen_any _ _ (by omega) (by omega)).mono ?_; rintro _ w1 ⟨rfl, rfl⟩)
    | (go_at_call 35; refine (pdq_any g cap t xs rest _ _ HB.out hl).mono ?_; rintro _ w1 ⟨⟨v, rfl⟩, zs, h1, h2, h3, h4⟩))
  go_end0
  exact ⟨⟨_, rfl⟩, zs, h1, h2, h3, h4⟩
set_option maxHeartbeats 400000 in
theorem insertion_nil (a : Option Addr) (cap : Nat) (w : World) :
    Calls Tryd.prog 40 #[.slice a 0 cap, .int .i64 0, .int .i64 0] w fun e w' => (∃ v, e = .returned v) ∧ w = w' := by
  go_enter Tryd.func40, Tryd.ntmps40
  go_wp2_with fail
  refine wp_loop_rounds 1 ?_
  rw [rounds_succ]
  go_wp2_with fail
  go_end0
  exact ⟨⟨_, rfl⟩, rfl⟩
set_option maxRecDepth 100000 in
set_option maxHeartbeats 400000 in
theorem pdq_nil (a : Option Addr) (cap : Nat) (l : Int) (w : World) :
    Calls Tryd.prog 35 #[.slice a 0 cap, .int .i64 0, .int .i64 0, .int .i64 l] w fun e w' => (∃ v, e = .returned v) ∧ w = w' := by
  go_enter Tryd.func35, Tryd.ntmps35
  go_wp2_with fail
  refine wp_loop_rounds 1 ?_
  rw [rounds_succ]
  go_wp2_with fail
  refine (insertion_nil a cap _).mono ?_; rintro _ w1 ⟨⟨v, rfl⟩, rfl⟩
  go_wp2_with fail
  (try simp only [Exit.inBlock, Exit.then])
  refine bodyPost_ret (results_none rfl _ _ _) rfl ?_
  exact ⟨⟨_, rfl⟩, rfl⟩
set_option maxHeartbeats 400000 in
theorem sort_nil (w : World) (a : Option Addr) (cap : Nat) :
    Calls Tryd.prog 26 #[.slice a 0 cap] w fun e w' => (∃ v, e = .returned v) ∧ w = w' := by
  go_enter Tryd.func26, Tryd.ntmps26
  go_wp2_with (first
    | (go_at_call 36; refine (bitsLen_any _ _ (by omega) (by omega)).mono ?_; rintro _ w1 ⟨rfl, rfl⟩)
    | (go_at_call 35; refine (pdq_nil a cap _ _).mono ?_; rintro _ w1 ⟨⟨v, rfl⟩, rfl⟩))
  go_end0
  exact ⟨⟨_, rfl⟩, rfl⟩
end Go.Proofs.YthomeenmcajmdaaDoor
