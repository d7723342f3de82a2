/- What the texts Sh1, MxW, Pm3, FoR, Mx6, CupA show, in one text. -/
import Derived.Test.YtijpeepdedfhoaaGreatBun21
import Derived.Test.YtijpeepdedfhoaaGreatBun12
import Derived.Test.YtijpeepdedfhoaaGreatBun20
import Derived.Test.YtijpeepdedfhoaaGreatBun01
import Derived.Test.YtijpeepdedfhoaaGreatBun09
/- Package shape: what may be a side, rows that rise, lists of so many numbers. -/
namespace Go.Proofs.YtijpeepdedfhoaaGreat
open Go.RowKit Go.Maps

/-- the row ahead of one -/
def aheadZ (R : List Int) : Nat → Int
  | 0 => -1
  | k + 1 => R.getD k 0
/-- are rows rising, from 0 on? -/
def risesB (R : List Int) (rows : Int) : Bool := decide (∀ k, k < R.length → aheadZ R k < R.getD k 0 ∧ R.getD k 0 < rows)
/-- the first of n of whom something holds; -1 if of none -/
def Fst (pr : Nat → Bool) (n : Nat) (i : Int) : Prop := (i = -1 ∧ ∀ t, t < n → pr t = false) ∨ ∃ j, j < n ∧ i = (j : Int) ∧ pr j = true ∧ ∀ t, t < j → pr t = false
/-- have lists so many numbers? -/
def lensB (many : Int) (ls : List (List Int)) : Bool := decide (∀ j, j < ls.length → ((ls.getD j []).length : Int) = many)
theorem lensB_iff {many : Int} {ls : List (List Int)} : lensB many ls = true ↔ ∀ l ∈ ls, (l.length : Int) = many := by
  unfold lensB
  rw [decide_eq_true_iff]
  constructor
  · intro h l hl
    obtain ⟨j, hj, rfl⟩ := List.getElem_of_mem hl
    have := h j hj
    rwa [show ls.getD j [] = ls[j] by simp [List.getD, hj]] at this
  · intro h j hj
    exact h _ (getD_mem [] hj)
/-- have C and U as many lists, of as many numbers, as they must? -/
def fitsB (rows cols : Int) (R : List Int) (C U : List (List Int)) : Bool := decide ((C.length : Int) = rows) && (lensB R.length C && (decide (U.length = R.length) && lensB cols U))
end Go.Proofs.YtijpeepdedfhoaaGreat
/- Package matrix: Times' answer is a row of its own, that may be written. -/
namespace Go.Proofs.YtijpeepdedfhoaaGreat
open Go.RowKit Go.Maps

set_option maxRecDepth 100000 in
set_option maxHeartbeats 1000000 in
theorem mxTimesW (p : Int) (m n : Nat) (v u : Value) (xs ys : List Int) (w : World) (ok : MatOk p m n xs) (hv : Ints .u64 w v xs) (hu : Ints .u64 w u ys) (hy : Rng p ys) (hyl : ys.length = n) :
    Calls Tryz.prog 52 #[.int .u64 p, matV m n v, u] w fun e w' => ∃ g, e = .returned (.tuple #[.slice (some ⟨g, 0, none⟩) m m, .int .i64 0]) ∧ w.heap.size ≤ g ∧ WRow w' g 0 (timesL p m n xs ys) ∧ Ext w w' := by
  have hp2 := rightB_true ok.hp
  have C1 := hid fun (W : World) (hW : Ext w W) => mxRight p m n v xs W (by omega) (by omega) (hv.ext hW) ok.u64
  have C2 := hid fun (W : World) (hW : Ext w W) => mxVector p n u ys W (by omega) (by omega) (hu.ext hW) (hy.u64 hp2.2)
  rw [ok.b] at C1
  rw [vecB_yes ok.hp hy hyl] at C2
  have Ok := hid ok; have Hv := hid hv; have Hu := hid hu; have Hy := hid hy; have Hyl := hid hyl
  have hm := ok.hm; have hn := ok.hn
  obtain ⟨a, cap, rfl, k1, k2, k3⟩ := hv
  obtain ⟨b, off, rfl, hb, k4⟩ := k3 ok.pos
  have hcap := hid fun (i : Nat) (h : i < m) => Nat.le_trans (ok.at_ h) k1
  clear k3 k4 hu hy hyl ok
  obtain ⟨F, hF⟩ : ∃ F : Nat → Int, (fun i => dv p n (fun k => xs.getD (i * n + k) 0) fun k => ys.getD k 0) = F := ⟨_, rfl⟩
  have HF := hid (fun i => (congrFun hF i : dv p n (fun k => xs.getD (i * n + k) 0) (fun k => ys.getD k 0) = F i))
  unfold timesL
  rw [hF]
  clear hF
  have hmk := make_ints (P := Tryz.prog) 23 22 .u64 8 (by omega) (by kernel_rfl) (by kernel_rfl) m m (Nat.le_refl _) (by omega)
  have hbox := hid (box3 w 25 (.int .i64 (m : Int)) (.int .i64 (n : Int)) (.slice (some ⟨b, off, none⟩) xs.length cap))
  have hx0 : Ext w (w.alloc (.cells #[.int .i64 (m : Int), .int .i64 (n : Int), .slice (some ⟨b, off, none⟩) xs.length cap] 25)) := (Ext.refl w).alloc _
  have hrl := hid (List.length_replicate (n := m) (a := (0 : Int)))
  unfold matV at C1
  unfold matV
  go_enter Tryz.func52, Tryz.ntmps52
  go_wp2_with (first
    | (go_at_call 9; refine (C1.out _ (by repeat (first | exact Ext.refl _ | assumption | refine Ext.drew ?_ | refine Ext.drewN ?_ _ | refine Ext.alloc ?_ _ | refine Ext.trans ?_ (by assumption)))).mono ?_; rintro _ w1 ⟨rfl, x1⟩; obtain ⟨b0, b1, b2⟩ := hbox.out w1 x1)
    | (go_at_call 90; refine (C2.out _ (hx0.trans x1)).mono ?_; rintro _ _ ⟨rfl, rfl⟩))
  have hrow := hid (WRow.made (w := w1) (t := 22) (n := m) rfl)
  obtain ⟨g, hg⟩ : ∃ g, w1.heap.size = g := ⟨_, rfl⟩
  have hgw : w1.heap.size ≤ g := by omega
  obtain ⟨w2, hw2⟩ : ∃ w2, w1.alloc (.cells (madeCells #[Value.int .u64 0] m) 22) = w2 := ⟨_, rfl⟩
  have hx2 : Ext w1 w2 := hw2 ▸ (Ext.refl w1).alloc _
  rw [hg, hw2] at hrow
  rw [hg, hw2]
  clear hg hw2 hmk b0 b1 b2
  go_loopw [27] (fun i wr => ∃ (k : Nat) (l : List Int), i = .int .i64 k ∧ k ≤ m ∧ Hid (l.length = m) ∧ Hid (∀ j, l.getD j 0 = if j < k then F j else 0) ∧ Hid (WRow wr g 0 l) ∧ Ext w1 wr) (fun i _ => m - (intOf i).toNat)
  case atStart => exact ⟨0, _, rfl, Nat.zero_le _, hrl, hid (fun j => by rw [replicate_get]; simp), hrow, hx2⟩
  case round =>
    obtain ⟨k, l, rfl, hk, hln, hl2, Hrw, hxw⟩ := hrel
    clear hx2
    obtain ⟨b0, b1, b2⟩ := hbox.out wr (x1.trans hxw)
    by_cases hlt : k < m
    · have hck := hcap.out k hlt
      have hfk := HF.out k
      obtain ⟨z, hz⟩ : ∃ z, F k = z := ⟨_, rfl⟩
      rw [hz] at hfk
      have hdot := hid ((dot_piece (p := p) (Ok.out.at_ hlt) Hyl.out).trans hfk)
      have Hz := hid hz
      clear hz hfk
      go_wp2_with fail
      refine (mxRow (m : Int) (n : Int) n k b off xs.length cap wr rfl hn (by omega) hck k2).mono ?_
      rintro _ w3 ⟨rfl, x3⟩
      go_wp2_with fail
      refine (dot_as p z _ u (piece xs k n) ys w3 ((Hv.out.ext ((hx0.trans x1).trans (hxw.trans x3))).sub (k * n) n (Ok.out.at_ hlt) hn.1) (Hu.out.ext ((hx0.trans x1).trans (hxw.trans x3))) ((piece_rng Ok.out.hx k n).u64 hp2.2) (Hy.out.u64 hp2.2) (by rw [piece_len (Ok.out.at_ hlt), Hyl.out]) ((piece_rng Ok.out.hx k n).has Ok.out.hp) (Hy.out.has Ok.out.hp) hdot.out).mono ?_
      rintro _ w4 ⟨rfl, x4⟩
      have g2 := ((Hrw.out.ext (x3.trans x4)).2 k (by rw [hln.out]; omega)).1
      have f2 := ((Hrw.out.ext (x3.trans x4)).2 k (by rw [hln.out]; omega)).2
      rw [Nat.zero_add] at g2 f2
      go_wp2_with fail
      go_roundw
      case rel =>
        have hs := (Hrw.out.ext (x3.trans x4)).set_ (i := k) (by rw [hln.out]; omega) z
        rw [Nat.zero_add] at hs
        refine ⟨k + 1, l.set k z, by go_num, by omega, hid (by rw [List.length_set]; exact hln.out), hid (fun j => ?_), hid hs, (hxw.trans (x3.trans x4)).setCell (p := ⟨g, k, none⟩) hgw _⟩
        rw [set_get l k j z (by rw [hln.out]; omega), hl2.out]
        by_cases e : k = j
        · subst e
          rw [if_pos rfl, if_pos (by omega), Hz.out]
        · rw [if_neg e]
          by_cases e2 : j < k
          · rw [if_pos e2, if_pos (by omega)]
          · rw [if_neg e2, if_neg (by omega)]
      case measure => simp [intOf]; omega
    · obtain rfl : m = k := by omega
      go_wp2_with fail
      go_ret2
      have e : l = tab m F := tab_of hln.out fun j hj => by rw [hl2.out, if_pos hj]
      exact ⟨g, rfl, by have := (hx0.trans x1).size; omega, e ▸ Hrw.out, hx0.trans (x1.trans hxw)⟩
end Go.Proofs.YtijpeepdedfhoaaGreat
/- Package perm: what undoes an order, and its sign; what an order answers, if it is one. -/
namespace Go.Proofs.YtijpeepdedfhoaaGreat
open Go.RowKit Go.Maps

/-- a sign, of so many pairs -/
def sgnN (m : Nat) : Int := if m % 2 = 0 then 1 else -1
theorem sgnN_succ (m : Nat) : sgnN (m + 1) = -sgnN m := by
  unfold sgnN
  rcases Nat.mod_two_eq_zero_or_one m with h | h
  · rw [if_neg (by omega), if_pos h]
  · rw [if_pos (by omega), if_neg (by omega)]; rfl
theorem sgnN_or (m : Nat) : -1 ≤ sgnN m ∧ sgnN m ≤ 1 := by unfold sgnN; split <;> simp

set_option maxRecDepth 100000 in
set_option maxHeartbeats 1000000 in
theorem ordSign (v : Value) (p : List Int) (w : World) (hv : Ints .i64 w v p) (h0 : 0 < p.length) (hn : p.length ≤ 64) : Calls Tryz.prog 113 #[v] w (Ret (.int .i64 (sgnL p)) w) := by
  have HI := hid (fun i (h : i < p.length) => inv_take_succ h)
  have HG := hid (fun i k (h : k < p.length) => gtTo_succ (i := i) h)
  have HS := hid (show sgnL p = sgnN (invL (p.take p.length)) by rw [List.take_length]; rfl)
  obtain ⟨S0, hS0⟩ : ∃ S, sgnL p = S := ⟨_, rfl⟩
  rw [hS0] at HS ⊢
  clear hS0
  obtain ⟨a, cap, rfl, k1, k2, k3⟩ := hv
  obtain ⟨b, off, rfl, hb, hc⟩ := k3 h0
  have Hc := hid hc
  obtain ⟨n, en⟩ : ∃ n, p.length = n := ⟨_, rfl⟩
  rw [en] at HI HG HS k1 Hc h0 hn ⊢
  clear k3 hc en
  go_enter Tryz.func113, Tryz.ntmps113
  go_wp2_with fail
  go_loopw [10, 3] (fun iv sv wr => ∃ (i : Nat) (S : Int), iv = .int .i64 i ∧ sv = .int .i64 S ∧ i ≤ n ∧ Hid (S = sgnN (invL (p.take i))) ∧ Ext w wr) (fun iv _ _ => n - (intOf iv).toNat)
  case atStart => exact ⟨0, 1, rfl, rfl, Nat.zero_le _, hid (by simp [invL, sgnN]), Ext.refl _⟩
  case round =>
    obtain ⟨i, S, rfl, rfl, hi, hS, hw⟩ := hrel
    by_cases hlt : i < n
    · rename World => wo
      have gi := (hw.cells _ _ hb).trans (Hc.out i hlt)
      obtain ⟨x, ex⟩ : ∃ x, p.getD i 0 = x := ⟨_, rfl⟩
      rw [ex] at gi
      have Ex := hid ex
      clear ex
      go_wp2_with fail
      go_loopw [19, 3] (fun kv sv wr => ∃ (k : Nat) (S : Int), kv = .int .i64 k ∧ sv = .int .i64 S ∧ k ≤ i ∧ Hid (S = sgnN (invL (p.take i) + gtTo p i k)) ∧ Ext wo wr) (fun kv _ _ => i - (intOf kv).toNat)
      case atStart => exact ⟨0, S, rfl, rfl, Nat.zero_le _, hid (by rw [hS.out]; simp [gtTo]), Ext.refl _⟩
      case round =>
        clear hS
        obtain ⟨k, S, rfl, rfl, hk, hS, hwi⟩ := hrel
        by_cases hlk : k < i
        · have g2 := ((hw.trans hwi).cells _ _ hb).trans (Hc.out k (by omega))
          have hs := HG.out i k (by omega)
          rw [Ex.out] at hs
          obtain ⟨y, ey⟩ : ∃ y, p.getD k 0 = y := ⟨_, rfl⟩
          rw [ey] at g2 hs
          have hSb : -1 ≤ S ∧ S ≤ 1 := hS.out ▸ sgnN_or _
          clear ey
          by_cases hxy : x < y
          · rw [if_pos hxy] at hs
            have e := hid (show -S = sgnN (invL (p.take i) + gtTo p i (k + 1)) by rw [hs, ← Nat.add_assoc, sgnN_succ, hS.out])
            clear hs
            go_wp2_with fail
            go_roundw
            case rel => exact ⟨k + 1, -S, by go_num, by go_num, by omega, e, hwi⟩
            case measure => simp [intOf]; omega
          · rw [if_neg hxy] at hs
            have e := hid (show S = sgnN (invL (p.take i) + gtTo p i (k + 1)) by rw [hs]; exact hS.out)
            clear hs
            go_wp2_with fail
            go_roundw
            case rel => exact ⟨k + 1, S, by go_num, rfl, by omega, e, hwi⟩
            case measure => simp [intOf]; omega
        · obtain rfl : k = i := by omega
          have e := hid (show S = sgnN (invL (p.take (k + 1))) by rw [HI.out k hlt]; exact hS.out)
          go_wp2_with fail
          go_roundw
          case rel => exact ⟨k + 1, S, by go_num, rfl, by omega, e, hw.trans hwi⟩
          case measure => simp [intOf]; omega
    · obtain rfl : n = i := by omega
      go_wp2_with fail
      go_ret
      exact ⟨ret_int (by rw [HS.out, hS.out]), hw⟩

set_option maxHeartbeats 400000 in
theorem askSign (v : Value) (p : List Int) (w : World) (hv : Ints .i64 w v p) : Calls Tryz.prog 112 #[v, .func (.func 113) #[] #[]] w (Ret (.tuple #[.int .i64 (if ordB p = true then sgnL p else 0), .int .i64 (if ordB p = true then 0 else 1)]) w) := by
  have C1 := qmRight v p w hv
  have C2 := hid fun (hB : ordB p = true) (W : World) (hW : Ext w W) => ordSign v p W (hv.ext hW) (ordB_iff.1 hB).1 (ordB_iff.1 hB).2.1
  cases hp : ordB p with
  | false =>
    rw [hp] at C1
    have C := hid C1
    clear C1 C2 hp
    go_enter Tryz.func112, Tryz.ntmps112
    go_wp2_with (go_at_call 119; refine C.out.mono ?_; rintro _ w1 ⟨rfl, x1⟩)
    go_ret2
    exact ⟨rfl, x1⟩
  | true =>
    rw [hp] at C1
    have C := hid C1
    have D := hid (C2.out hp)
    clear C1 C2 hp
    go_enter Tryz.func112, Tryz.ntmps112
    go_wp2_with (first
      | (go_at_call 119; refine C.out.mono ?_; rintro _ w1 ⟨rfl, x1⟩)
      | (go_at_call 113; refine (D.out _ x1).mono ?_; rintro _ w2 ⟨rfl, x2⟩))
    go_ret2
    exact ⟨rfl, x1.trans x2⟩
set_option maxHeartbeats 400000 in
theorem qmSign (v : Value) (p : List Int) (w : World) (hv : Ints .i64 w v p) : Calls Tryz.prog 98 #[v] w (Ret (.tuple #[.int .i64 (if ordB p = true then sgnL p else 0), .int .i64 (if ordB p = true then 0 else 1)]) w) := by
  have C := hid (askSign v p w hv)
  obtain ⟨a, ea⟩ : ∃ a, (if ordB p = true then sgnL p else 0) = a := ⟨_, rfl⟩
  obtain ⟨b, eb⟩ : ∃ b : Int, (if ordB p = true then 0 else 1) = b := ⟨_, rfl⟩
  rw [ea, eb] at C ⊢
  clear hv ea eb
  go_enter Tryz.func98, Tryz.ntmps98
  go_wp2_with (go_at_call 112; refine C.out.mono ?_; rintro _ w1 ⟨rfl, x1⟩)
  go_ret2
  exact ⟨rfl, x1⟩
end Go.Proofs.YtijpeepdedfhoaaGreat
/- The document's own answers of layer 12: all 0, a number's digits, matrices that meet. -/
namespace Go.Proofs.YtijpeepdedfhoaaGreat
open Go.RowKit Go.Maps

/-- are all numbers 0? -/
def zeroB (l : List Int) : Bool := l.all fun x => x == 0
theorem zeroB_iff {l : List Int} : zeroB l = true ↔ ∀ j, j < l.length → l.getD j 0 = 0 := by
  unfold zeroB
  rw [List.all_eq_true]
  constructor
  · intro h j hj
    have := h _ (List.getElem_mem hj)
    simpa [List.getD, hj] using this
  · intro h x hx
    obtain ⟨j, hj, rfl⟩ := List.getElem_of_mem hx
    have := h j hj
    simpa [List.getD, hj] using this
theorem digV_snoc (p : Nat) : ∀ (j N : Nat), digV p N (j + 1) = digV p N j ++ [((N / p ^ j % p : Nat) : Int)]
  | 0, N => by simp [digV]
  | j + 1, N => by
    rw [digV, digV_snoc p j (N / p)]
    show _ :: (digV p (N / p) j ++ _) = (_ :: digV p (N / p) j) ++ _
    rw [Nat.div_div_eq_div_mul, Nat.pow_succ, Nat.mul_comm p]
    rfl
set_option maxRecDepth 100000 in
set_option maxHeartbeats 1000000 in
theorem r12Vector (p N n : Nat) (w : World) (hp : 1 ≤ p ∧ p ≤ 18446744073709551615) (hN : N ≤ 18446744073709551615) (hn : n ≤ 64) :
    Calls Tryz.prog 23 #[.int .u64 p, .int .u64 N, .int .i64 n] w fun e w' => ∃ v, e = .returned v ∧ w'.ownsRow w.heap.size 22 1 v n ((digV p N n).map (Value.int .u64)) ∧ Ext w w' := by
  obtain ⟨i0, hi, hz0, hz1, hz2⟩ := info_parts info_u64p
  go_enter Tryz.func23, Tryz.ntmps23
  go_wp2_with fail
  go_loopw [1, 7, 8] (fun q b i wr => ∃ (j : Nat) (M : Nat), i = .int .i64 j ∧ j ≤ n ∧ q = .int .u64 M ∧ M ≤ 18446744073709551615 ∧ Hid (M = N / p ^ j) ∧ Hid (wr.ownsRow w.heap.size 22 1 b j ((digV p N j).map (Value.int .u64))) ∧ Ext w wr) (fun _ _ i _ => n - (intOf i).toNat)
  case atStart => exact ⟨0, N, rfl, Nat.zero_le _, rfl, hN, hid (by simp), hid (World.ownsRow_nil _ _ _ _), Ext.refl _⟩
  case round =>
    obtain ⟨j, M, rfl, hj, rfl, hM, hMe, ho, hx⟩ := hrel
    rename World => wr
    obtain ⟨ar, cr, er⟩ : ∃ ar cr, _ := by
      obtain ⟨ar, cr, er, -, -⟩ := WRow.of_owns ho.out
      exact ⟨ar, cr, er⟩
    by_cases hlt : j < n
    · obtain ⟨d, ed⟩ : ∃ d, M % p = d := ⟨_, rfl⟩
      obtain ⟨q, eq⟩ : ∃ q, M / p = q := ⟨_, rfl⟩
      have t1 : ((M : Int)).tmod (p : Int) = (d : Int) := by rw [Int.tmod_eq_emod_of_nonneg (by omega), ← ed]; rfl
      have t2 : ((M : Int)).tdiv (p : Int) = (q : Int) := by rw [Int.tdiv_eq_ediv_of_nonneg (by omega), ← eq]; rfl
      have hq : q ≤ M := by rw [← eq]; exact Nat.div_le_self _ _
      have hd : d < p := by rw [← ed]; exact Nat.mod_lt _ (by omega)
      have hp0 : (p : Int) ≠ 0 := by omega
      have hnx := hid (show (digV p N j).map (Value.int .u64) ++ [.int .u64 (d : Int)] = (digV p N (j + 1)).map (Value.int .u64) by rw [digV_snoc, ← hMe.out, ed]; simp)
      have hqe := hid (show q = N / p ^ (j + 1) by rw [← eq, hMe.out, Nat.div_div_eq_div_mul, Nat.pow_succ])
      have hsz := hx.size
      subst er
      clear ed eq
      go_wp2_with (at_builtin; refine wpList_append_own _ rfl _ _ 23 rfl w.heap.size 22 i0 (.int .u64 0) 1 8 Tryz.underlying23 hi hz0 hz1 hz2 rfl (by decide) _ _ _ rfl (ho.out.alloc _) ⟨wr.heap.size, 0, none⟩ 1 1 [.int .u64 (d : Int)] rfl rfl (cells_new _ _ _ (by simp)) (by simp [Value.oneCell']) (by simp only [maxLen]; omega) (by omega) (by simp; omega) ?_; intro v1 w1 hown1 hgrow1 _)
      go_roundw
      case rel => exact ⟨j + 1, q, by go_num, by omega, by go_num, by omega, hqe, hid (by rw [← hnx.out]; exact hown1), (hx.alloc _).grown hgrow1 (fun k e => (ho.out.lt k e).1)⟩
      case measure => simp [intOf]; omega
    · obtain rfl : j = n := by omega
      subst er
      go_wp2_with fail
      go_ret
      exact ⟨_, rfl, ho.out, hx⟩
/-- three matrices in boxes -/
theorem boxes_3 (w : World) (t : TypeId) (a b c : Array Value) : Blk (((w.alloc (.cells a t)).alloc (.cells b t)).alloc (.cells c t)) w.heap.size t a ∧ Blk (((w.alloc (.cells a t)).alloc (.cells b t)).alloc (.cells c t)) (w.heap.size + 1) t b ∧ Blk (((w.alloc (.cells a t)).alloc (.cells b t)).alloc (.cells c t)) (w.heap.size + 1 + 1) t c ∧ Ext w (((w.alloc (.cells a t)).alloc (.cells b t)).alloc (.cells c t)) := by
  refine ⟨((Blk.new w t a).ext ((Ext.refl _).alloc _)).ext ((Ext.refl _).alloc _), ?_, ?_, (((Ext.refl w).alloc _).alloc _).alloc _⟩
  · have := (Blk.new (w.alloc (.cells a t)) t b).ext ((Ext.refl _).alloc (.cells c t))
    rwa [alloc_size] at this
  · have := Blk.new ((w.alloc (.cells a t)).alloc (.cells b t)) t c
    rwa [alloc_size, alloc_size] at this
/-- do they meet? -/
def meetB (p ra ca rb cb rc cc : Int) (xs ys zs : List Int) : Bool := matB p ra ca xs && (matB p rb cb ys && (matB p rc cc zs && (decide (ca = rb) && (decide (rc = ra) && decide (cc = cb)))))
end Go.Proofs.YtijpeepdedfhoaaGreat
/- Package matrix: One; the least and the greatest of a list; whether rows and columns may be picked. -/
namespace Go.Proofs.YtijpeepdedfhoaaGreat
open Go.RowKit Go.Maps

set_option maxHeartbeats 400000 in
theorem mxOne_no (n : Int) (w : World) (h : sideB n = false) : Calls Tryz.prog 56 #[.int .i64 n] w (Ret noMat w) := by
  have HR := Blk.new w 25 #[.int .i64 0, .int .i64 0, .slice none 0 0]
  have HE : Ext w (w.alloc (.cells #[.int .i64 0, .int .i64 0, .slice none 0 0] 25)) := (Ext.refl w).alloc _
  have F := hid (And.intro HR HE)
  obtain ⟨b0, b1, b2⟩ := HR.at3
  have f0 := HR.frozen 0
  have f1 := HR.frozen 1
  have f2 := HR.frozen 2
  clear HR HE
  unfold noMat
  go_enter Tryz.func56, Tryz.ntmps56
  go_wp2_with (go_at_call 70; refine (mxSide _ _).mono ?_; rintro _ _ ⟨rfl, rfl⟩)
  refine bodyPost_ret (results_cell_row_tmp rfl _ _ w.heap.size 25 _ (0, 0) _ rfl F.out.1 Tryz.underlying25 rfl (by kernel_rfl)) rfl ?_
  exact ⟨rfl, F.out.2⟩

set_option maxRecDepth 100000 in
set_option maxHeartbeats 1000000 in
theorem mxOne_yes (n : Nat) (w : World) (hn : 1 ≤ n ∧ n ≤ 64) : Calls Tryz.prog 56 #[.int .i64 n] w (RetN n n (oneL n) w) := by
  have hs : sideB n = true := decide_eq_true (by omega)
  obtain ⟨Q, hQ⟩ : ∃ Q, n * n = Q := ⟨_, rfl⟩
  have hQb : Q ≤ 4096 := by rw [← hQ]; exact Nat.mul_le_mul hn.2 hn.2
  have HN := hid fun W : World => mxNoughts n n W hn.2 hn.2
  rw [hQ] at HN
  have HQ := hid hQ
  clear hQ
  have HR := hid (Blk.new w 25 #[.int .i64 0, .int .i64 0, .slice none 0 0])
  have hx0 : Ext w (w.alloc (.cells #[.int .i64 0, .int .i64 0, .slice none 0 0] 25)) := (Ext.refl w).alloc _
  have hR1 := HR.out.lt
  go_enter Tryz.func56, Tryz.ntmps56
  go_wp2_with (first | (go_at_call 70; refine (mxSide _ _).mono ?_; rintro _ _ ⟨rfl, rfl⟩) | fail)
  refine (HN.out _).mono ?_
  rintro _ w2 ⟨g, rfl, hg, hrow, x2⟩
  have HU := hid (Und.start (Q := Q) (r := (n : Int)) (c := (n : Int)) hg hrow List.length_replicate x2)
  unfold matV
  go_wp2_with fail
  obtain ⟨h, hh⟩ : ∃ h, w2.heap.size = h := ⟨_, rfl⟩
  obtain ⟨w3, hw3⟩ : ∃ w3, w2.alloc (.cells #[.int .i64 (n : Int), .int .i64 (n : Int), .slice (some ⟨g, 0, none⟩) Q Q] 25) = w3 := ⟨_, rfl⟩
  obtain ⟨w1, hw1⟩ : ∃ w1, w.alloc (.cells #[.int .i64 0, .int .i64 0, .slice none 0 0] 25) = w1 := ⟨_, rfl⟩
  rw [hw3, hh, hw1] at HU
  rw [hw1] at HR hx0 hR1
  rw [hw3, hh]
  obtain ⟨gR, hgR⟩ : ∃ gR, w.heap.size = gR := ⟨_, rfl⟩
  have hgw : w.heap.size ≤ gR := by omega
  rw [hgR] at HR hR1
  rw [hgR]
  clear hh hw3 hw1 hrow x2 hg hgR
  have HE := hid hx0
  go_loopw [14] (fun iv wr => ∃ (i : Nat) (l : List Int), iv = .int .i64 i ∧ i ≤ n ∧ Hid (Und w1 wr h g Q n n l) ∧ Hid (∀ a b, b < n → l.getD (a * n + b) 0 = if a = b ∧ a < i then 1 else 0)) (fun iv _ => n - (intOf iv).toNat)
  case atStart => exact ⟨0, _, rfl, Nat.zero_le _, HU, hid fun a b _ => by rw [replicate_get, if_neg (by omega)]⟩
  case round =>
    clear HU
    obtain ⟨i, l, rfl, hi, HU, hl⟩ := hrel
    obtain ⟨o0, o1, o2⟩ := HU.out.box.at3
    by_cases hlt : i < n
    · have hoQ : i * n + n ≤ Q := by rw [← HQ.out, ← Nat.succ_mul]; exact Nat.mul_le_mul_right _ hlt
      go_wp2_with fail
      refine (mxRow (n : Int) (n : Int) n i g 0 Q Q wr rfl hn (by omega) hoQ (by omega)).mono ?_
      rintro _ w5 ⟨rfl, x5⟩
      rw [Nat.zero_add]
      obtain ⟨o, ho⟩ : ∃ o, i * n = o := ⟨_, rfl⟩
      obtain ⟨cp, hcp⟩ : ∃ cp, Q - o = cp := ⟨_, rfl⟩
      rw [ho] at hoQ
      rw [ho, hcp]
      have hcpn : n ≤ cp := by omega
      have hcpb : cp ≤ 9223372036854775807 := by omega
      obtain ⟨t, ht⟩ : ∃ t, o + i = t := ⟨_, rfl⟩
      have htQ : t < Q := by omega
      have Ht := hid (show i * n + i = t by omega)
      clear ho hcp o0 o1 o2
      obtain ⟨gt, ft⟩ := (HU.out.ext' x5).at_ htQ
      go_wp2_with fail
      go_roundw
      case rel =>
        refine ⟨i + 1, l.set t 1, by go_num, by omega, hid ((HU.out.ext' x5).put htQ 1), hid fun a b hb => ?_⟩
        rw [← Ht.out, put_at 1 hlt hb (by rw [Ht.out, HU.out.len]; exact htQ), hl.out a b hb]
        by_cases e : a = i ∧ b = i
        · rw [if_pos e, if_pos (by omega)]
        · rw [if_neg e]
          by_cases e2 : a = b ∧ a < i
          · rw [if_pos e2, if_pos (by omega)]
          · rw [if_neg e2, if_neg (by omega)]
      case measure => simp [intOf]; omega
    · obtain rfl : n = i := by omega
      have hRr := HR.out.ext HU.out.ext
      obtain ⟨r0, r1, r2⟩ := hRr.at3
      have f0 := hRr.frozen 0
      have f1 := hRr.frozen 1
      have f2 := hRr.frozen 2
      have FF := hid (HU.out.fin hRr hR1 (HE.out.trans HU.out.ext) hgw (by omega))
      clear hRr
      go_wp2_with fail
      refine bodyPost_ret (results_cell_row_tmp rfl _ _ gR 25 _ (0, 0) _ rfl FF.out.1 Tryz.underlying25 rfl (by kernel_rfl)) rfl ?_
      have e : l = oneL n := grid_of (by rw [HU.out.len, HQ.out]) fun a b ha hb => by
        rw [hl.out a b hb]
        by_cases e : a = b
        · rw [if_pos e, if_pos ⟨e, ha⟩]
        · rw [if_neg e, if_neg (fun h => e h.1)]
      exact ⟨_, rfl, e ▸ FF.out.2.1, FF.out.2.2⟩

/-- may these be picked? -/
def picksB (many : Int) (l : List Int) : Bool := decide (1 ≤ l.length ∧ l.length ≤ 64) && l.all fun x => decide (0 ≤ x ∧ x < many)
end Go.Proofs.YtijpeepdedfhoaaGreat
/- The matrix of layer 7's first look, taken apart by hand (in plain Lean; nothing of a program). -/
namespace Go.Proofs.YtijpeepdedfhoaaGreat

def xs7 : List Int := [0, 2, 3, 4]
theorem fld7 : Fld 7 := fun a h0 h1 => by
  have : a = 1 ∨ a = 2 ∨ a = 3 ∨ a = 4 ∨ a = 5 ∨ a = 6 := by omega
  rcases this with rfl | rfl | rfl | rfl | rfl | rfl <;> decide
theorem ok7 : MatOk 7 2 2 xs7 := ⟨by decide, by unfold Rng xs7; decide, by decide, by decide, rfl⟩
theorem det7 : detF 2 (atF 2 xs7) % 7 = 1 := by decide
theorem rank7 : (takeL 7 2 2 xs7).U.length = 2 := by
  have h := det_rank (n := 2) (xs := xs7) (p := 7) (by decide) fld7 ok7.hx
  rw [det7] at h
  exact Classical.byContradiction fun hn => absurd (h.2 hn) (by decide)
theorem rows7 : (takeL 7 2 2 xs7).rows = [0, 1] := by
  have h := takeL_ok (p := 7) (m := 2) (n := 2) (xs := xs7) (by decide) fld7 ok7.hx
  have hl : (takeL 7 2 2 xs7).rows.length = 2 := by rw [h.lr, rank7]
  have hi := inc_id hl h.inc h.low
  match e : (takeL 7 2 2 xs7).rows, hl with
  | [a, b], _ =>
    have h0 := hi 0 (by decide)
    have h1 := hi 1 (by decide)
    rw [e] at h0 h1
    have h0 : a = 0 := h0
    have h1 : b = 1 := h1
    rw [h0, h1]
theorem prof7 : profZ 7 2 2 xs7 = [0, 1] := by unfold profZ; rw [rows7]; rfl
theorem cols7 : ∃ c, colsZ (takeL 7 2 2 xs7) = [1, c] := by
  have h := takeL_ok (p := 7) (m := 2) (n := 2) (xs := xs7) (by decide) fld7 ok7.hx
  have hl : (takeL 7 2 2 xs7).cols.length = 2 := by rw [h.lk, rank7]
  have h0 : (takeL 7 2 2 xs7).cols.getD 0 0 = 1 := by
    have hr := h.row 0 (by rw [rank7]; decide)
    have ho := h.one 0 (by rw [rows7]; decide)
    rw [rows7] at ho
    have hm := h.made 0 (by decide) 0 (by decide)
    have e0 : ([0, 1] : List Nat).getD 0 0 = 0 := rfl
    rw [e0] at ho
    rw [ho.1, show sm (0 + 1) (fun t => ((takeL 7 2 2 xs7).C.getD 0 []).getD t 0 * ((takeL 7 2 2 xs7).U.getD t []).getD 0 0) = ((takeL 7 2 2 xs7).C.getD 0 []).getD 0 0 * ((takeL 7 2 2 xs7).U.getD 0 []).getD 0 0 by simp [sm], ho.2, Int.one_mul] at hm
    have e1 : (rowOf 2 xs7 0).getD 0 0 = 0 := by decide
    rw [e1] at hm
    have hg := hr.2.1.getD (by decide) 0
    rw [mod_small hg.1 hg.2] at hm
    have hne := hr.2.2.2.2.2
    have hlt := hr.2.2.1
    rcases Nat.lt_or_ge ((takeL 7 2 2 xs7).cols.getD 0 0) 1 with hc | hc
    · have : (takeL 7 2 2 xs7).cols.getD 0 0 = 0 := by omega
      rw [this] at hne
      exact absurd hm.symm hne
    · omega
  match e : (takeL 7 2 2 xs7).cols, hl with
  | [a, b], _ =>
    rw [e] at h0
    have h0 : a = 1 := h0
    exact ⟨(b : Int), by unfold colsZ; rw [e, h0]; rfl⟩
theorem minor7 : minorL 7 2 2 xs7 = xs7 := by
  have h := takeL_ok (p := 7) (m := 2) (n := 2) (xs := xs7) (by decide) fld7 ok7.hx
  have hl : (risL 2 (takeL 7 2 2 xs7).cols).length = 2 := by rw [risL_len h.cols_nodup fun c hc => h.cols_lt hc, h.lk, rank7]
  have e : risL 2 (takeL 7 2 2 xs7).cols = List.range 2 := List.filter_sublist.eq_of_length (by rw [List.length_range]; exact hl)
  unfold minorL
  rw [rank7, rows7, e]
  decide
theorem make7 (r : Nat) : makeL 7 ((takeL 7 2 2 xs7).C.map (padL r)) (takeL 7 2 2 xs7).U 2 2 = xs7 := make_take (by decide) fld7 ok7.hx rfl (by decide) r
end Go.Proofs.YtijpeepdedfhoaaGreat
