/- Package perm: what undoes an order, and its sign; what an order answers, if it is one. -/
import Derived.Test.YtalkbmnbggclpaaPm1
namespace Go.Proofs.Ytalkbmnbggclpaa
open Go.RowKit Go.Maps

set_option maxRecDepth 100000 in
set_option maxHeartbeats 1000000 in
theorem ordBack (v : Value) (n : Nat) (p : List Int) (w : World) (hv : Ints .i64 w v p) (hp : Ord n p) (h0 : 0 < n) (hn : n ≤ 64) :
    Calls Try.prog 32 #[v] w (RetI (backL p) w) := by
  have Ho := hid hp
  have hl := hp.len
  obtain ⟨a, cap, rfl, k1, k2, k3⟩ := hv
  obtain ⟨b, off, rfl, hb, hc⟩ := k3 (by omega)
  rw [hl] at k1 hc ⊢
  have Hc := hid hc; have Hl := hid hl
  have hmk := make_ints (P := Try.prog) 22 3 .i64 8 (by omega) (by kernel_rfl) (by kernel_rfl) n n (Nat.le_refl _) (by omega)
  clear k3 hc hl hp
  go_enter Try.func32, Try.ntmps32
  go_wp2_with fail
  have hb0 := hid (Blk.new w 3 (madeCells #[Value.int .i64 0] n))
  have hx0 := (Ext.refl w).alloc (.cells (madeCells #[Value.int .i64 0] n) 3)
  obtain ⟨g, hg⟩ : ∃ g, w.heap.size = g := ⟨_, rfl⟩
  have hgw : w.heap.size ≤ g := by omega
  obtain ⟨w2, hw2⟩ : ∃ w2, w.alloc (.cells (madeCells #[Value.int .i64 0] n) 3) = w2 := ⟨_, rfl⟩
  have hsz0 := hid (show (madeCells #[Value.int .i64 0] n).size = n by simp [madeCells])
  rw [hg, hw2] at hb0
  rw [hw2] at hx0
  rw [hg, hw2]
  obtain ⟨cs0, hcs0⟩ : ∃ c, madeCells #[Value.int .i64 0] n = c := ⟨_, rfl⟩
  rw [hcs0] at hb0 hsz0
  clear hw2 hmk hcs0 hg
  go_loopw [11] (fun iv wr => ∃ (k : Nat) (cs : Array Value), iv = .int .i64 k ∧ k ≤ n ∧ Hid (Blk wr g 3 cs) ∧ Hid (cs.size = n) ∧ Hid (∀ j : Nat, j < k → cs[(p.getD j 0).toNat]? = some (.int .i64 (j : Int))) ∧ Ext w wr) (fun iv _ => n - (intOf iv).toNat)
  case atStart => exact ⟨0, _, rfl, Nat.zero_le _, hb0, hsz0, hid (fun j hj => absurd hj (Nat.not_lt_zero _)), hx0⟩
  case round =>
    obtain ⟨k, cs, rfl, hk, hbl, hcs, hcc, hxw⟩ := hrel
    clear hx0 hb0
    by_cases hlt : k < n
    · have g1 := (hxw.cells _ _ hb).trans (Hc.out k hlt)
      have hr := Ho.out.get hlt
      have hinj := hid fun (j : Nat) (hj : j < k) (e : p.getD j 0 = p.getD k 0) => Ho.out.inj (show j < n by omega) hlt e
      have hget := hid fun (j : Nat) (hj : j < k) => Ho.out.get (show j < n by omega)
      obtain ⟨y, ey⟩ : ∃ y, p.getD k 0 = y := ⟨_, rfl⟩
      rw [ey] at g1 hr hinj
      obtain ⟨t, rfl⟩ := Int.eq_ofNat_of_zero_le hr.1
      have htm : t < n := by omega
      have Ey := hid ey
      obtain ⟨x0, e0⟩ : ∃ x, cs[t]? = some x := ⟨_, Array.getElem?_eq_getElem (by rw [hcs.out]; exact htm)⟩
      have gX := (hbl.out.cell t).trans e0
      have gF := hbl.out.frozen t
      clear e0 ey hr
      go_wp2_with fail
      go_roundw
      case rel =>
        refine ⟨k + 1, cs.setIfInBounds t (.int .i64 k), by go_num, by omega, hid (hbl.out.set_ t _), hid (by simp [hcs.out]), hid (fun j hj => ?_), hxw.setCell (p := ⟨g, t, none⟩) hgw _⟩
        rw [Array.getElem?_setIfInBounds]
        by_cases e : j = k
        · subst e
          rw [Ey.out, Int.toNat_natCast, if_pos rfl, if_pos (by rw [hcs.out]; exact htm)]
        · have h1 := hget.out j (by omega)
          rw [if_neg (fun e2 => e (hinj.out j (by omega) (by omega)))]
          exact hcc.out j (by omega)
      case measure => simp [intOf]; omega
    · obtain rfl : n = k := by omega
      have hI := hid (hbl.out.ints (k := .i64) (xs := backL p) (n := n) (by rw [backL_len, Hl.out]) (by omega) fun j hj => by
        obtain ⟨h1, h2⟩ := Ho.out.at_lt hj
        have h3 := hcc.out _ h1
        rw [h2, Int.toNat_natCast] at h3
        rw [h3, Ho.out.back_get hj])
      go_wp2_with fail
      go_ret
      exact ⟨_, rfl, hI.out, hxw⟩

/-- a sign, of so many pairs -/
def sgnN (m : Nat) : Int := if m % 2 = 0 then 1 else -1
theorem sgnN_succ (m : Nat) : sgnN (m + 1) = -sgnN m := by
  unfold sgnN
  rcases Nat.mod_two_eq_zero_or_one m with h | h
  · rw [if_neg (by omega), if_pos h]
  · rw [if_pos (by omega), if_neg (by omega)]; rfl
theorem sgnN_or (m : Nat) : -1 ≤ sgnN m ∧ sgnN m ≤ 1 := by unfold sgnN; split <;> simp

set_option maxRecDepth 100000 in
set_option maxHeartbeats 1000000 in
theorem ordSign (v : Value) (p : List Int) (w : World) (hv : Ints .i64 w v p) (h0 : 0 < p.length) (hn : p.length ≤ 64) : Calls Try.prog 34 #[v] w (Ret (.int .i64 (sgnL p)) w) := by
  have HI := hid (fun i (h : i < p.length) => inv_take_succ h)
  have HG := hid (fun i k (h : k < p.length) => gtTo_succ (i := i) h)
  have HS := hid (show sgnL p = sgnN (invL (p.take p.length)) by rw [List.take_length]; rfl)
  obtain ⟨S0, hS0⟩ : ∃ S, sgnL p = S := ⟨_, rfl⟩
  rw [hS0] at HS ⊢
  clear hS0
  obtain ⟨a, cap, rfl, k1, k2, k3⟩ := hv
  obtain ⟨b, off, rfl, hb, hc⟩ := k3 h0
  have Hc := hid hc
  obtain ⟨n, en⟩ : ∃ n, p.length = n := ⟨_, rfl⟩
  rw [en] at HI HG HS k1 Hc h0 hn ⊢
  clear k3 hc en
  go_enter Try.func34, Try.ntmps34
  go_wp2_with fail
  go_loopw [10, 3] (fun iv sv wr => ∃ (i : Nat) (S : Int), iv = .int .i64 i ∧ sv = .int .i64 S ∧ i ≤ n ∧ Hid (S = sgnN (invL (p.take i))) ∧ Ext w wr) (fun iv _ _ => n - (intOf iv).toNat)
  case atStart => exact ⟨0, 1, rfl, rfl, Nat.zero_le _, hid (by simp [invL, sgnN]), Ext.refl _⟩
  case round =>
    obtain ⟨i, S, rfl, rfl, hi, hS, hw⟩ := hrel
    by_cases hlt : i < n
    · rename World => wo
      have gi := (hw.cells _ _ hb).trans (Hc.out i hlt)
      obtain ⟨x, ex⟩ : ∃ x, p.getD i 0 = x := ⟨_, rfl⟩
      rw [ex] at gi
      have Ex := hid ex
      clear ex
      go_wp2_with fail
      go_loopw [19, 3] (fun kv sv wr => ∃ (k : Nat) (S : Int), kv = .int .i64 k ∧ sv = .int .i64 S ∧ k ≤ i ∧ Hid (S = sgnN (invL (p.take i) + gtTo p i k)) ∧ Ext wo wr) (fun kv _ _ => i - (intOf kv).toNat)
      case atStart => exact ⟨0, S, rfl, rfl, Nat.zero_le _, hid (by rw [hS.out]; simp [gtTo]), Ext.refl _⟩
      case round =>
        clear hS
        obtain ⟨k, S, rfl, rfl, hk, hS, hwi⟩ := hrel
        by_cases hlk : k < i
        · have g2 := ((hw.trans hwi).cells _ _ hb).trans (Hc.out k (by omega))
          have hs := HG.out i k (by omega)
          rw [Ex.out] at hs
          obtain ⟨y, ey⟩ : ∃ y, p.getD k 0 = y := ⟨_, rfl⟩
          rw [ey] at g2 hs
          have hSb : -1 ≤ S ∧ S ≤ 1 := hS.out ▸ sgnN_or _
          clear ey
          by_cases hxy : x < y
          · rw [if_pos hxy] at hs
            have e := hid (show -S = sgnN (invL (p.take i) + gtTo p i (k + 1)) by rw [hs, ← Nat.add_assoc, sgnN_succ, hS.out])
            clear hs
            go_wp2_with fail
            go_roundw
            case rel => exact ⟨k + 1, -S, by go_num, by go_num, by omega, e, hwi⟩
            case measure => simp [intOf]; omega
          · rw [if_neg hxy] at hs
            have e := hid (show S = sgnN (invL (p.take i) + gtTo p i (k + 1)) by rw [hs]; exact hS.out)
            clear hs
            go_wp2_with fail
            go_roundw
            case rel => exact ⟨k + 1, S, by go_num, rfl, by omega, e, hwi⟩
            case measure => simp [intOf]; omega
        · obtain rfl : k = i := by omega
          have e := hid (show S = sgnN (invL (p.take (k + 1))) by rw [HI.out k hlt]; exact hS.out)
          go_wp2_with fail
          go_roundw
          case rel => exact ⟨k + 1, S, by go_num, rfl, by omega, e, hw.trans hwi⟩
          case measure => simp [intOf]; omega
    · obtain rfl : n = i := by omega
      go_wp2_with fail
      go_ret
      exact ⟨ret_int (by rw [HS.out, hS.out]), hw⟩

set_option maxHeartbeats 400000 in
theorem askBack (v : Value) (p : List Int) (w : World) (hv : Ints .i64 w v p) : Calls Try.prog 31 #[v, .func (.func 32) #[] #[]] w (RetGI (ordB p) (backL p) w) := by
  have C1 := qmRight v p w hv
  have C2 := hid fun (hB : ordB p = true) (W : World) (hW : Ext w W) => ordBack v p.length p W (hv.ext hW) (ordB_iff.1 hB).2.2 (ordB_iff.1 hB).1 (ordB_iff.1 hB).2.1
  cases hp : ordB p with
  | false =>
    rw [hp] at C1
    have C := hid C1
    clear C1 C2 hp
    go_enter Try.func31, Try.ntmps31
    go_wp2_with (go_at_call 16; refine C.out.mono ?_; rintro _ w1 ⟨rfl, x1⟩)
    go_ret2
    exact ⟨_, _, _, rfl, Ints.nil, rfl, rfl, x1⟩
  | true =>
    rw [hp] at C1
    have C := hid C1
    have D := hid (C2.out hp)
    clear C1 C2 hp
    go_enter Try.func31, Try.ntmps31
    go_wp2_with (first
      | (go_at_call 16; refine C.out.mono ?_; rintro _ w1 ⟨rfl, x1⟩)
      | (go_at_call 32; refine (D.out _ x1).mono ?_; rintro _ w2 ⟨r, rfl, h1, x2⟩))
    go_ret2
    exact ⟨_, _, _, rfl, h1, rfl, rfl, x1.trans x2⟩
set_option maxHeartbeats 400000 in
theorem qmBack (v : Value) (p : List Int) (w : World) (hv : Ints .i64 w v p) : Calls Try.prog 9 #[v] w (RetGI (ordB p) (backL p) w) := by
  have C := hid (askBack v p w hv)
  clear hv
  go_enter Try.func9, Try.ntmps9
  go_wp2_with (go_at_call 31; refine C.out.mono ?_; rintro _ w1 ⟨r, l, ee, rfl, h1, h2, h3, x1⟩; have H2 := hid h2; have H3 := hid h3; clear h2 h3)
  go_ret2
  exact ⟨_, _, _, rfl, h1, H2.out, H3.out, x1⟩
set_option maxHeartbeats 400000 in
theorem askSign (v : Value) (p : List Int) (w : World) (hv : Ints .i64 w v p) : Calls Try.prog 33 #[v, .func (.func 34) #[] #[]] w (Ret (.tuple #[.int .i64 (if ordB p = true then sgnL p else 0), .int .i64 (if ordB p = true then 0 else 1)]) w) := by
  have C1 := qmRight v p w hv
  have C2 := hid fun (hB : ordB p = true) (W : World) (hW : Ext w W) => ordSign v p W (hv.ext hW) (ordB_iff.1 hB).1 (ordB_iff.1 hB).2.1
  cases hp : ordB p with
  | false =>
    rw [hp] at C1
    have C := hid C1
    clear C1 C2 hp
    go_enter Try.func33, Try.ntmps33
    go_wp2_with (go_at_call 16; refine C.out.mono ?_; rintro _ w1 ⟨rfl, x1⟩)
    go_ret2
    exact ⟨rfl, x1⟩
  | true =>
    rw [hp] at C1
    have C := hid C1
    have D := hid (C2.out hp)
    clear C1 C2 hp
    go_enter Try.func33, Try.ntmps33
    go_wp2_with (first
      | (go_at_call 16; refine C.out.mono ?_; rintro _ w1 ⟨rfl, x1⟩)
      | (go_at_call 34; refine (D.out _ x1).mono ?_; rintro _ w2 ⟨rfl, x2⟩))
    go_ret2
    exact ⟨rfl, x1.trans x2⟩
set_option maxHeartbeats 400000 in
theorem qmSign (v : Value) (p : List Int) (w : World) (hv : Ints .i64 w v p) : Calls Try.prog 10 #[v] w (Ret (.tuple #[.int .i64 (if ordB p = true then sgnL p else 0), .int .i64 (if ordB p = true then 0 else 1)]) w) := by
  have C := hid (askSign v p w hv)
  obtain ⟨a, ea⟩ : ∃ a, (if ordB p = true then sgnL p else 0) = a := ⟨_, rfl⟩
  obtain ⟨b, eb⟩ : ∃ b : Int, (if ordB p = true then 0 else 1) = b := ⟨_, rfl⟩
  rw [ea, eb] at C ⊢
  clear hv ea eb
  go_enter Try.func10, Try.ntmps10
  go_wp2_with (go_at_call 33; refine C.out.mono ?_; rintro _ w1 ⟨rfl, x1⟩)
  go_ret2
  exact ⟨rfl, x1⟩
end Go.Proofs.Ytalkbmnbggclpaa
