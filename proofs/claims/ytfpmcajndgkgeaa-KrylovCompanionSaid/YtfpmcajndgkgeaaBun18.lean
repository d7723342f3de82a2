/- What the texts Pm2, Pm3, Mx6, Mx4, CupA show, in one text. -/
import Derived.Test.YtfpmcajndgkgeaaBun12
import Derived.Test.YtfpmcajndgkgeaaBun06
import Derived.Deep.RegionHeld3
/- Package perm: an order done to things of any kind; Then, Do. -/
namespace Go.Proofs.Ytfpmcajndgkgeaa
open Go.RowKit Go.Maps

/-- in the world w the slice u reads as the values us -/
def Vals (w : World) (u : Value) (us : List Value) : Prop :=
  ∃ (a : Option Addr) (cap : Nat), u = .slice a us.length cap ∧ us.length ≤ cap ∧ cap ≤ 9223372036854775807 ∧
    (0 < us.length → ∃ b off, a = some ⟨b, off, none⟩ ∧ b < w.heap.size ∧ ∀ j x, us[j]? = some x → w.cell? ⟨b, off + j, none⟩ = some x)
theorem Vals.ext {w w' : World} {u : Value} {us : List Value} (h : Vals w u us) (he : Ext w w') : Vals w' u us := by
  obtain ⟨a, cap, h1, h2, h3, h4⟩ := h
  refine ⟨a, cap, h1, h2, h3, fun hp => ?_⟩
  obtain ⟨b, off, ha, hb, hc⟩ := h4 hp
  exact ⟨b, off, ha, Nat.lt_of_lt_of_le hb he.size, fun j x hj => (he.cells _ _ hb).trans (hc j x hj)⟩
theorem getD_some {α : Type} {l : List α} {j : Nat} {x : α} (d : α) (h : l[j]? = some x) : l.getD j d = x := by rw [List.getD, h]; rfl
theorem Ints.vals {k : IntKind} {w : World} {v : Value} {xs : List Int} (h : Ints k w v xs) : Vals w v (xs.map (Value.int k)) := by
  obtain ⟨a, cap, h1, h2, h3, h4⟩ := h
  refine ⟨a, cap, by rw [h1, List.length_map], by rw [List.length_map]; exact h2, h3, fun hp => ?_⟩
  rw [List.length_map] at hp
  obtain ⟨b, off, ha, hb, hc⟩ := h4 hp
  refine ⟨b, off, ha, hb, fun j x hj => ?_⟩
  rw [List.getElem?_map] at hj
  obtain ⟨y, hy, rfl⟩ := Option.map_eq_some_iff.1 hj
  rw [hc j (List.getElem?_eq_some_iff.1 hy).1, getD_some 0 hy]
theorem Vals.ints {k : IntKind} {w : World} {v : Value} {xs : List Int} (h : Vals w v (xs.map (Value.int k))) : Ints k w v xs := by
  obtain ⟨a, cap, h1, h2, h3, h4⟩ := h
  rw [List.length_map] at h1 h2 h4
  refine ⟨a, cap, h1, h2, h3, fun hp => ?_⟩
  obtain ⟨b, off, ha, hb, hc⟩ := h4 hp
  refine ⟨b, off, ha, hb, fun j hj => hc j _ ?_⟩
  simp [List.getD, hj]
/-- what an order does to things of any kind -/
def doG {α : Type} (d : α) (p : List Int) (x : List α) : List α := p.map fun k => x.getD k.toNat d
theorem doG_len {α : Type} (d : α) (p : List Int) (x : List α) : (doG d p x).length = p.length := by simp [doG]
theorem doG_get {α : Type} {d : α} {p : List Int} {x : List α} {k : Nat} (hk : k < p.length) : (doG d p x)[k]? = some (x.getD (p.getD k 0).toNat d) := by
  simp [doG, List.getD, hk]
/-- a block whose first so many cells are known -/
theorem Blk.vals {w : World} {g n : Nat} {t : TypeId} {cs : Array Value} {us : List Value} (h : Blk w g t cs) (hl : us.length = n) (hn : n ≤ 9223372036854775807) (hc : ∀ j, j < n → cs[j]? = us[j]?) : Vals w (.slice (some ⟨g, 0, none⟩) n n) us := by
  subst hl
  refine ⟨_, _, rfl, Nat.le_refl _, hn, fun _ => ⟨g, 0, rfl, h.lt, fun j x hj => ?_⟩⟩
  rw [Nat.zero_add, h.cell j, hc j (List.getElem?_eq_some_iff.1 hj).1]; exact hj
/-- things that a call answers, or that something isn't right -/
def RetVals (ok : Bool) (us : List Value) (w : World) (e : Ending) (w' : World) : Prop :=
  ∃ (v : Value) (l' : List Value) (ee : Int), e = .returned (.tuple #[v, .int .i64 ee]) ∧ Vals w' v l' ∧ ee = (if ok = true then 0 else 1) ∧ l' = (if ok = true then us else []) ∧ Ext w w'
theorem Vals.nil {w : World} : Vals w (.slice none 0 0) [] := ⟨none, 0, rfl, by simp, by omega, by simp⟩
theorem make_rows {P : Program} (t e : TypeId) (bytes : Nat) (hb : bytes ≤ 24) (ht : P.underlying t = some (.slice e)) (hi : (P.info? e).map (fun i => (i.zero, i.size, i.bytes)) = some (some (.slice none 0 0), 1, bytes))
    (n c : Nat) (hnc : n ≤ c) (hc : c ≤ 1000000) (w : World) :
    (Instr.makeSlice t (.int .i64 n) (.int .i64 c)).run P w = .ok (.slice (some ⟨w.heap.size, 0, none⟩) n c) (w.alloc (.cells (madeCells #[Value.slice none 0 0] c) e)) := by
  obtain ⟨i, h1, h2, h3, h4⟩ := info_parts hi
  have hbc : i.bytes * c ≤ 24 * c := Nat.mul_le_mul_right _ (by omega)
  have hbi : (i.bytes : Int) * (c : Int) ≤ 281474976710656 := by rw [← Int.natCast_mul]; omega
  have := run_make (P := P) w t e i _ ht h1 h2 .i64 .i64 n c (by omega) (by omega) hbi (by omega)
  rw [this, h3]
  simp [Value.cells]
/-- a slice, as a value -/
def slV (x : Option Addr × Nat × Nat) : Value := .slice x.1 x.2.1 x.2.2

theorem thenL_doG (p q : List Int) : doG 0 q p = thenL p q := rfl
theorem doL_doG (p x : List Int) : doG 0 p x = doL p x := rfl
end Go.Proofs.Ytfpmcajndgkgeaa
/- Package perm: what undoes an order, and its sign; what an order answers, if it is one. -/
namespace Go.Proofs.Ytfpmcajndgkgeaa
open Go.RowKit Go.Maps

/-- a sign, of so many pairs -/
def sgnN (m : Nat) : Int := if m % 2 = 0 then 1 else -1
theorem sgnN_succ (m : Nat) : sgnN (m + 1) = -sgnN m := by
  unfold sgnN
  rcases Nat.mod_two_eq_zero_or_one m with h | h
  · rw [if_neg (by omega), if_pos h]
  · rw [if_pos (by omega), if_neg (by omega)]; rfl
theorem sgnN_or (m : Nat) : -1 ≤ sgnN m ∧ sgnN m ≤ 1 := by unfold sgnN; split <;> simp

set_option maxRecDepth 100000 in
set_option maxHeartbeats 1000000 in
theorem ordSign (v : Value) (p : List Int) (w : World) (hv : Ints .i64 w v p) (h0 : 0 < p.length) (hn : p.length ≤ 64) : Calls Try.prog 130 #[v] w (Ret (.int .i64 (sgnL p)) w) := by
  have HI := hid (fun i (h : i < p.length) => inv_take_succ h)
  have HG := hid (fun i k (h : k < p.length) => gtTo_succ (i := i) h)
  have HS := hid (show sgnL p = sgnN (invL (p.take p.length)) by rw [List.take_length]; rfl)
  obtain ⟨S0, hS0⟩ : ∃ S, sgnL p = S := ⟨_, rfl⟩
  rw [hS0] at HS ⊢
  clear hS0
  obtain ⟨a, cap, rfl, k1, k2, k3⟩ := hv
  obtain ⟨b, off, rfl, hb, hc⟩ := k3 h0
  have Hc := hid hc
  obtain ⟨n, en⟩ : ∃ n, p.length = n := ⟨_, rfl⟩
  rw [en] at HI HG HS k1 Hc h0 hn ⊢
  clear k3 hc en
  go_enter Try.func130, Try.ntmps130
  go_wp2_with fail
  go_loopw [10, 3] (fun iv sv wr => ∃ (i : Nat) (S : Int), iv = .int .i64 i ∧ sv = .int .i64 S ∧ i ≤ n ∧ Hid (S = sgnN (invL (p.take i))) ∧ Ext w wr) (fun iv _ _ => n - (intOf iv).toNat)
  case atStart => exact ⟨0, 1, rfl, rfl, Nat.zero_le _, hid (by simp [invL, sgnN]), Ext.refl _⟩
  case round =>
    obtain ⟨i, S, rfl, rfl, hi, hS, hw⟩ := hrel
    by_cases hlt : i < n
    · rename World => wo
      have gi := (hw.cells _ _ hb).trans (Hc.out i hlt)
      obtain ⟨x, ex⟩ : ∃ x, p.getD i 0 = x := ⟨_, rfl⟩
      rw [ex] at gi
      have Ex := hid ex
      clear ex
      go_wp2_with fail
      go_loopw [19, 3] (fun kv sv wr => ∃ (k : Nat) (S : Int), kv = .int .i64 k ∧ sv = .int .i64 S ∧ k ≤ i ∧ Hid (S = sgnN (invL (p.take i) + gtTo p i k)) ∧ Ext wo wr) (fun kv _ _ => i - (intOf kv).toNat)
      case atStart => exact ⟨0, S, rfl, rfl, Nat.zero_le _, hid (by rw [hS.out]; simp [gtTo]), Ext.refl _⟩
      case round =>
        clear hS
        obtain ⟨k, S, rfl, rfl, hk, hS, hwi⟩ := hrel
        by_cases hlk : k < i
        · have g2 := ((hw.trans hwi).cells _ _ hb).trans (Hc.out k (by omega))
          have hs := HG.out i k (by omega)
          rw [Ex.out] at hs
          obtain ⟨y, ey⟩ : ∃ y, p.getD k 0 = y := ⟨_, rfl⟩
          rw [ey] at g2 hs
          have hSb : -1 ≤ S ∧ S ≤ 1 := hS.out ▸ sgnN_or _
          clear ey
          by_cases hxy : x < y
          · rw [if_pos hxy] at hs
            have e := hid (show -S = sgnN (invL (p.take i) + gtTo p i (k + 1)) by rw [hs, ← Nat.add_assoc, sgnN_succ, hS.out])
            clear hs
            go_wp2_with fail
            go_roundw
            case rel => exact ⟨k + 1, -S, by go_num, by go_num, by omega, e, hwi⟩
            case measure => simp [intOf]; omega
          · rw [if_neg hxy] at hs
            have e := hid (show S = sgnN (invL (p.take i) + gtTo p i (k + 1)) by rw [hs]; exact hS.out)
            clear hs
            go_wp2_with fail
            go_roundw
            case rel => exact ⟨k + 1, S, by go_num, rfl, by omega, e, hwi⟩
            case measure => simp [intOf]; omega
        · obtain rfl : k = i := by omega
          have e := hid (show S = sgnN (invL (p.take (k + 1))) by rw [HI.out k hlt]; exact hS.out)
          go_wp2_with fail
          go_roundw
          case rel => exact ⟨k + 1, S, by go_num, rfl, by omega, e, hw.trans hwi⟩
          case measure => simp [intOf]; omega
    · obtain rfl : n = i := by omega
      go_wp2_with fail
      go_ret
      exact ⟨ret_int (by rw [HS.out, hS.out]), hw⟩

set_option maxHeartbeats 400000 in
theorem askSign (v : Value) (p : List Int) (w : World) (hv : Ints .i64 w v p) : Calls Try.prog 129 #[v, .func (.func 130) #[] #[]] w (Ret (.tuple #[.int .i64 (if ordB p = true then sgnL p else 0), .int .i64 (if ordB p = true then 0 else 1)]) w) := by
  have C1 := qmRight v p w hv
  have C2 := hid fun (hB : ordB p = true) (W : World) (hW : Ext w W) => ordSign v p W (hv.ext hW) (ordB_iff.1 hB).1 (ordB_iff.1 hB).2.1
  cases hp : ordB p with
  | false =>
    rw [hp] at C1
    have C := hid C1
    clear C1 C2 hp
    go_enter Try.func129, Try.ntmps129
    go_wp2_with (go_at_call 140; refine C.out.mono ?_; rintro _ w1 ⟨rfl, x1⟩)
    go_ret2
    exact ⟨rfl, x1⟩
  | true =>
    rw [hp] at C1
    have C := hid C1
    have D := hid (C2.out hp)
    clear C1 C2 hp
    go_enter Try.func129, Try.ntmps129
    go_wp2_with (first
      | (go_at_call 140; refine C.out.mono ?_; rintro _ w1 ⟨rfl, x1⟩)
      | (go_at_call 130; refine (D.out _ x1).mono ?_; rintro _ w2 ⟨rfl, x2⟩))
    go_ret2
    exact ⟨rfl, x1.trans x2⟩
set_option maxHeartbeats 400000 in
theorem qmSign (v : Value) (p : List Int) (w : World) (hv : Ints .i64 w v p) : Calls Try.prog 95 #[v] w (Ret (.tuple #[.int .i64 (if ordB p = true then sgnL p else 0), .int .i64 (if ordB p = true then 0 else 1)]) w) := by
  have C := hid (askSign v p w hv)
  obtain ⟨a, ea⟩ : ∃ a, (if ordB p = true then sgnL p else 0) = a := ⟨_, rfl⟩
  obtain ⟨b, eb⟩ : ∃ b : Int, (if ordB p = true then 0 else 1) = b := ⟨_, rfl⟩
  rw [ea, eb] at C ⊢
  clear hv ea eb
  go_enter Try.func95, Try.ntmps95
  go_wp2_with (go_at_call 129; refine C.out.mono ?_; rintro _ w1 ⟨rfl, x1⟩)
  go_ret2
  exact ⟨rfl, x1⟩
end Go.Proofs.Ytfpmcajndgkgeaa
/- Package matrix: One; the least and the greatest of a list; whether rows and columns may be picked. -/
namespace Go.Proofs.Ytfpmcajndgkgeaa
open Go.RowKit Go.Maps

set_option maxHeartbeats 400000 in
theorem mxOne_no (n : Int) (w : World) (h : sideB n = false) : Calls Try.prog 79 #[.int .i64 n] w (Ret noMat w) := by
  have HR := Blk.new w 25 #[.int .i64 0, .int .i64 0, .slice none 0 0]
  have HE : Ext w (w.alloc (.cells #[.int .i64 0, .int .i64 0, .slice none 0 0] 25)) := (Ext.refl w).alloc _
  have F := hid (And.intro HR HE)
  obtain ⟨b0, b1, b2⟩ := HR.at3
  have f0 := HR.frozen 0
  have f1 := HR.frozen 1
  have f2 := HR.frozen 2
  clear HR HE
  unfold noMat
  go_enter Try.func79, Try.ntmps79
  go_wp2_with (go_at_call 120; refine (mxSide _ _).mono ?_; rintro _ _ ⟨rfl, rfl⟩)
  refine bodyPost_ret (results_cell_row_tmp rfl _ _ w.heap.size 25 _ (0, 0) _ rfl F.out.1 Try.underlying25 rfl (by kernel_rfl)) rfl ?_
  exact ⟨rfl, F.out.2⟩

set_option maxRecDepth 100000 in
set_option maxHeartbeats 1000000 in
theorem mxOne_yes (n : Nat) (w : World) (hn : 1 ≤ n ∧ n ≤ 64) : Calls Try.prog 79 #[.int .i64 n] w (RetN n n (oneL n) w) := by
  have hs : sideB n = true := decide_eq_true (by omega)
  obtain ⟨Q, hQ⟩ : ∃ Q, n * n = Q := ⟨_, rfl⟩
  have hQb : Q ≤ 4096 := by rw [← hQ]; exact Nat.mul_le_mul hn.2 hn.2
  have HN := hid fun W : World => mxNoughts n n W hn.2 hn.2
  rw [hQ] at HN
  have HQ := hid hQ
  clear hQ
  have HR := hid (Blk.new w 25 #[.int .i64 0, .int .i64 0, .slice none 0 0])
  have hx0 : Ext w (w.alloc (.cells #[.int .i64 0, .int .i64 0, .slice none 0 0] 25)) := (Ext.refl w).alloc _
  have hR1 := HR.out.lt
  go_enter Try.func79, Try.ntmps79
  go_wp2_with (first | (go_at_call 120; refine (mxSide _ _).mono ?_; rintro _ _ ⟨rfl, rfl⟩) | fail)
  refine (HN.out _).mono ?_
  rintro _ w2 ⟨g, rfl, hg, hrow, x2⟩
  have HU := hid (Und.start (Q := Q) (r := (n : Int)) (c := (n : Int)) hg hrow List.length_replicate x2)
  unfold matV
  go_wp2_with fail
  obtain ⟨h, hh⟩ : ∃ h, w2.heap.size = h := ⟨_, rfl⟩
  obtain ⟨w3, hw3⟩ : ∃ w3, w2.alloc (.cells #[.int .i64 (n : Int), .int .i64 (n : Int), .slice (some ⟨g, 0, none⟩) Q Q] 25) = w3 := ⟨_, rfl⟩
  obtain ⟨w1, hw1⟩ : ∃ w1, w.alloc (.cells #[.int .i64 0, .int .i64 0, .slice none 0 0] 25) = w1 := ⟨_, rfl⟩
  rw [hw3, hh, hw1] at HU
  rw [hw1] at HR hx0 hR1
  rw [hw3, hh]
  obtain ⟨gR, hgR⟩ : ∃ gR, w.heap.size = gR := ⟨_, rfl⟩
  have hgw : w.heap.size ≤ gR := by omega
  rw [hgR] at HR hR1
  rw [hgR]
  clear hh hw3 hw1 hrow x2 hg hgR
  have HE := hid hx0
  go_loopw [14] (fun iv wr => ∃ (i : Nat) (l : List Int), iv = .int .i64 i ∧ i ≤ n ∧ Hid (Und w1 wr h g Q n n l) ∧ Hid (∀ a b, b < n → l.getD (a * n + b) 0 = if a = b ∧ a < i then 1 else 0)) (fun iv _ => n - (intOf iv).toNat)
  case atStart => exact ⟨0, _, rfl, Nat.zero_le _, HU, hid fun a b _ => by rw [replicate_get, if_neg (by omega)]⟩
  case round =>
    clear HU
    obtain ⟨i, l, rfl, hi, HU, hl⟩ := hrel
    obtain ⟨o0, o1, o2⟩ := HU.out.box.at3
    by_cases hlt : i < n
    · have hoQ : i * n + n ≤ Q := by rw [← HQ.out, ← Nat.succ_mul]; exact Nat.mul_le_mul_right _ hlt
      go_wp2_with fail
      refine (mxRow (n : Int) (n : Int) n i g 0 Q Q wr rfl hn (by omega) hoQ (by omega)).mono ?_
      rintro _ w5 ⟨rfl, x5⟩
      rw [Nat.zero_add]
      obtain ⟨o, ho⟩ : ∃ o, i * n = o := ⟨_, rfl⟩
      obtain ⟨cp, hcp⟩ : ∃ cp, Q - o = cp := ⟨_, rfl⟩
      rw [ho] at hoQ
      rw [ho, hcp]
      have hcpn : n ≤ cp := by omega
      have hcpb : cp ≤ 9223372036854775807 := by omega
      obtain ⟨t, ht⟩ : ∃ t, o + i = t := ⟨_, rfl⟩
      have htQ : t < Q := by omega
      have Ht := hid (show i * n + i = t by omega)
      clear ho hcp o0 o1 o2
      obtain ⟨gt, ft⟩ := (HU.out.ext' x5).at_ htQ
      go_wp2_with fail
      go_roundw
      case rel =>
        refine ⟨i + 1, l.set t 1, by go_num, by omega, hid ((HU.out.ext' x5).put htQ 1), hid fun a b hb => ?_⟩
        rw [← Ht.out, put_at 1 hlt hb (by rw [Ht.out, HU.out.len]; exact htQ), hl.out a b hb]
        by_cases e : a = i ∧ b = i
        · rw [if_pos e, if_pos (by omega)]
        · rw [if_neg e]
          by_cases e2 : a = b ∧ a < i
          · rw [if_pos e2, if_pos (by omega)]
          · rw [if_neg e2, if_neg (by omega)]
      case measure => simp [intOf]; omega
    · obtain rfl : n = i := by omega
      have hRr := HR.out.ext HU.out.ext
      obtain ⟨r0, r1, r2⟩ := hRr.at3
      have f0 := hRr.frozen 0
      have f1 := hRr.frozen 1
      have f2 := hRr.frozen 2
      have FF := hid (HU.out.fin hRr hR1 (HE.out.trans HU.out.ext) hgw (by omega))
      clear hRr
      go_wp2_with fail
      refine bodyPost_ret (results_cell_row_tmp rfl _ _ gR 25 _ (0, 0) _ rfl FF.out.1 Try.underlying25 rfl (by kernel_rfl)) rfl ?_
      have e : l = oneL n := grid_of (by rw [HU.out.len, HQ.out]) fun a b ha hb => by
        rw [hl.out a b hb]
        by_cases e : a = b
        · rw [if_pos e, if_pos ⟨e, ha⟩]
        · rw [if_neg e, if_neg (fun h => e h.1)]
      exact ⟨_, rfl, e ▸ FF.out.2.1, FF.out.2.2⟩

/-- may these be picked? -/
def picksB (many : Int) (l : List Int) : Bool := decide (1 ≤ l.length ∧ l.length ≤ 64) && l.all fun x => decide (0 ≤ x ∧ x < many)
end Go.Proofs.Ytfpmcajndgkgeaa
/- Package matrix: Left, Mul, One. -/
namespace Go.Proofs.Ytfpmcajndgkgeaa
open Go.RowKit Go.Maps

theorem MatOk.turn {p : Int} {m n : Nat} {xs : List Int} (h : MatOk p m n xs) : MatOk p n m (turnL m n xs) :=
  ⟨h.hp, turnL_rng (rightB_true h.hp).1 h.hx m n, h.hn, h.hm, turnL_len m n xs⟩
theorem times_turn (p : Int) (m n : Nat) (xs ys : List Int) : timesL p n m (turnL m n xs) ys = leftL p m n xs ys := by
  unfold timesL leftL
  refine tab_congr fun k hk => dv_congr (fun i hi => ?_) fun _ _ => rfl
  rw [turnL, grid_get _ hk hi]
theorem boxesM3 (w : World) (t : TypeId) (A B C : Array Value) :
    Blk (((w.alloc (.cells A t)).alloc (.cells B t)).alloc (.cells C t)) w.heap.size t A ∧ Blk (((w.alloc (.cells A t)).alloc (.cells B t)).alloc (.cells C t)) (w.heap.size + 1) t B ∧
    Blk (((w.alloc (.cells A t)).alloc (.cells B t)).alloc (.cells C t)) (w.heap.size + 1 + 1) t C ∧ Ext w (((w.alloc (.cells A t)).alloc (.cells B t)).alloc (.cells C t)) :=
  ⟨(Blk.new w t A).ext (((Ext.refl _).alloc _).alloc _), (Blk.at_ (by rw [alloc_size])).ext ((Ext.refl _).alloc _), Blk.at_ (by rw [alloc_size, alloc_size]), (((Ext.refl w).alloc _).alloc _).alloc _⟩

set_option maxRecDepth 100000 in
set_option maxHeartbeats 1000000 in
theorem mxMul_no (p r c r' c' : Int) (v u : Value) (xs ys : List Int) (w : World) (h0 : 0 ≤ p) (h1 : p ≤ 18446744073709551615) (hv : Ints .u64 w v xs) (hx : U64s xs) (hu : Ints .u64 w u ys) (hy : U64s ys)
    (h : (matB p r c xs && matB p r' c' ys && decide (c = r')) = false) :
    Calls Try.prog 46 #[.int .u64 p, matV r c v, matV r' c' u] w (Ret noMat w) := by
  have hb3 := hid (boxesM3 w 25 #[.int .i64 r, .int .i64 c, v] #[.int .i64 r', .int .i64 c', u] #[.int .i64 0, .int .i64 0, .slice none 0 0])
  have C2 := hid fun (W : World) (hW : Ext w W) => mxRight p r c v xs W h0 h1 (hv.ext hW) hx
  cases g1 : matB p r' c' ys
  · have C1 := hid fun (W : World) (hW : Ext w W) => mxTurn_no p r' c' u ys W h0 h1 (hu.ext hW) hy g1
    obtain ⟨a, cap, rfl, k1, k2, k3⟩ := hv
    obtain ⟨a', cap', rfl, m1, m2, m3⟩ := hu
    clear k3 m3 hx hy h g1 C2
    unfold matV noMat at C1
    unfold matV noMat
    go_enter Try.func46, Try.ntmps46
    go_wp2_with (go_at_call 74; refine (C1.out _ (by repeat (first | exact Ext.refl _ | assumption | refine Ext.drew ?_ | refine Ext.drewN ?_ _ | refine Ext.alloc ?_ _ | refine Ext.trans ?_ (by assumption)))).mono ?_; rintro _ w1 ⟨rfl, x1⟩
                 have HR := hid (hb3.out.2.2.1.ext (x1.alloc (.cells #[.int .i64 0, .int .i64 0, .slice none 0 0] 25)))
                 have HE := hid (hb3.out.2.2.2.trans (x1.alloc (.cells #[.int .i64 0, .int .i64 0, .slice none 0 0] 25)))
                 obtain ⟨b0, b1, b2⟩ := HR.out.at3; have f0 := HR.out.frozen 0; have f1 := HR.out.frozen 1; have f2 := HR.out.frozen 2)
    have F := fin0 HR.out HE.out (by omega) (.int .i64 0) (.int .i64 0) (.slice none 0 0)
    refine bodyPost_ret (results_cell_row_tmp rfl _ _ (w.heap.size + 1 + 1) 25 _ (0, 0) _ rfl F.1 Try.underlying25 rfl (by kernel_rfl)) rfl ?_
    exact ⟨rfl, F.2⟩
  · obtain ⟨n, q, rfl, rfl, oky⟩ := MatOk.of hy g1
    have C1 := hid fun (W : World) (hW : Ext w W) => mxTurn_yes p n q u ys W oky (hu.ext hW)
    rw [g1, Bool.and_true] at h
    obtain ⟨a, cap, rfl, k1, k2, k3⟩ := hv
    obtain ⟨a', cap', rfl, m1, m2, m3⟩ := hu
    clear k3 m3 hy g1 oky
    cases g2 : matB p r c xs
    · rw [g2] at C2
      clear h g2 hx
      unfold matV at C1 C2
      unfold matV noMat
      go_enter Try.func46, Try.ntmps46
      go_wp2_with (first
        | (go_at_call 74; refine (C1.out _ (by repeat (first | exact Ext.refl _ | assumption | refine Ext.drew ?_ | refine Ext.drewN ?_ _ | refine Ext.alloc ?_ _ | refine Ext.trans ?_ (by assumption)))).mono ?_; rintro _ w1 ⟨u1, rfl, hI, x1⟩; obtain ⟨a1, cap1, rfl, l1, l2, l3⟩ := hI; clear l3; try unfold matV
           have z1 := x1.alloc (.cells #[.int .i64 (q : Int), .int .i64 (n : Int), .slice a1 (turnL n q ys).length cap1] 25)
           have HA := hid (hb3.out.1.ext z1); have HR := hid (hb3.out.2.2.1.ext z1); have HE := hid (hb3.out.2.2.2.trans z1)
           obtain ⟨b0, b1, b2⟩ := HA.out.at3)
        | (go_at_call 39; refine (C2.out _ HE.out).mono ?_; rintro _ w2 ⟨rfl, x2⟩
           have HR2 := hid (HR.out.ext x2)
           obtain ⟨b0, b1, b2⟩ := HR2.out.at3; have f0 := HR2.out.frozen 0; have f1 := HR2.out.frozen 1; have f2 := HR2.out.frozen 2))
      have F := fin0 HR2.out (HE.out.trans x2) (by omega) (.int .i64 0) (.int .i64 0) (.slice none 0 0)
      refine bodyPost_ret (results_cell_row_tmp rfl _ _ (w.heap.size + 1 + 1) 25 _ (0, 0) _ rfl F.1 Try.underlying25 rfl (by kernel_rfl)) rfl ?_
      exact ⟨rfl, F.2⟩
    · rw [g2] at C2
      rw [g2, Bool.true_and] at h
      have hne : (c != (n : Int)) = true := by simpa using of_decide_eq_false h
      clear h g2 hx
      unfold matV at C1 C2
      unfold matV noMat
      go_enter Try.func46, Try.ntmps46
      go_wp2_with (first
        | (go_at_call 74; refine (C1.out _ (by repeat (first | exact Ext.refl _ | assumption | refine Ext.drew ?_ | refine Ext.drewN ?_ _ | refine Ext.alloc ?_ _ | refine Ext.trans ?_ (by assumption)))).mono ?_; rintro _ w1 ⟨u1, rfl, hI, x1⟩; obtain ⟨a1, cap1, rfl, l1, l2, l3⟩ := hI; clear l3; try unfold matV
           have z1 := x1.alloc (.cells #[.int .i64 (q : Int), .int .i64 (n : Int), .slice a1 (turnL n q ys).length cap1] 25)
           have HA := hid (hb3.out.1.ext z1); have HB := hid (hb3.out.2.1.ext z1); have HR := hid (hb3.out.2.2.1.ext z1); have HE := hid (hb3.out.2.2.2.trans z1)
           obtain ⟨b0, b1, b2⟩ := HA.out.at3)
        | (go_at_call 39; refine (C2.out _ HE.out).mono ?_; rintro _ w2 ⟨rfl, x2⟩
           have HR2 := hid (HR.out.ext x2)
           obtain ⟨a0, a1, a2⟩ := (HA.out.ext x2).at3
           obtain ⟨c0, c1, c2⟩ := (HB.out.ext x2).at3
           obtain ⟨b0, b1, b2⟩ := HR2.out.at3; have f0 := HR2.out.frozen 0; have f1 := HR2.out.frozen 1; have f2 := HR2.out.frozen 2))
      have F := fin0 HR2.out (HE.out.trans x2) (by omega) (.int .i64 0) (.int .i64 0) (.slice none 0 0)
      refine bodyPost_ret (results_cell_row_tmp rfl _ _ (w.heap.size + 1 + 1) 25 _ (0, 0) _ rfl F.1 Try.underlying25 rfl (by kernel_rfl)) rfl ?_
      exact ⟨rfl, F.2⟩
end Go.Proofs.Ytfpmcajndgkgeaa
/- The matrix of layer 7's first look, taken apart by hand (in plain Lean; nothing of a program). -/
namespace Go.Proofs.Ytfpmcajndgkgeaa

def xs7 : List Int := [0, 2, 3, 4]
theorem fld7 : Fld 7 := fun a h0 h1 => by
  have : a = 1 ∨ a = 2 ∨ a = 3 ∨ a = 4 ∨ a = 5 ∨ a = 6 := by omega
  rcases this with rfl | rfl | rfl | rfl | rfl | rfl <;> decide
theorem ok7 : MatOk 7 2 2 xs7 := ⟨by decide, by unfold Rng xs7; decide, by decide, by decide, rfl⟩
theorem det7 : detF 2 (atF 2 xs7) % 7 = 1 := by decide
theorem rank7 : (takeL 7 2 2 xs7).U.length = 2 := by
  have h := det_rank (n := 2) (xs := xs7) (p := 7) (by decide) fld7 ok7.hx
  rw [det7] at h
  exact Classical.byContradiction fun hn => absurd (h.2 hn) (by decide)
theorem rows7 : (takeL 7 2 2 xs7).rows = [0, 1] := by
  have h := takeL_ok (p := 7) (m := 2) (n := 2) (xs := xs7) (by decide) fld7 ok7.hx
  have hl : (takeL 7 2 2 xs7).rows.length = 2 := by rw [h.lr, rank7]
  have hi := inc_id hl h.inc h.low
  match e : (takeL 7 2 2 xs7).rows, hl with
  | [a, b], _ =>
    have h0 := hi 0 (by decide)
    have h1 := hi 1 (by decide)
    rw [e] at h0 h1
    have h0 : a = 0 := h0
    have h1 : b = 1 := h1
    rw [h0, h1]
theorem prof7 : profZ 7 2 2 xs7 = [0, 1] := by unfold profZ; rw [rows7]; rfl
theorem cols7 : ∃ c, colsZ (takeL 7 2 2 xs7) = [1, c] := by
  have h := takeL_ok (p := 7) (m := 2) (n := 2) (xs := xs7) (by decide) fld7 ok7.hx
  have hl : (takeL 7 2 2 xs7).cols.length = 2 := by rw [h.lk, rank7]
  have h0 : (takeL 7 2 2 xs7).cols.getD 0 0 = 1 := by
    have hr := h.row 0 (by rw [rank7]; decide)
    have ho := h.one 0 (by rw [rows7]; decide)
    rw [rows7] at ho
    have hm := h.made 0 (by decide) 0 (by decide)
    have e0 : ([0, 1] : List Nat).getD 0 0 = 0 := rfl
    rw [e0] at ho
    rw [ho.1, show sm (0 + 1) (fun t => ((takeL 7 2 2 xs7).C.getD 0 []).getD t 0 * ((takeL 7 2 2 xs7).U.getD t []).getD 0 0) = ((takeL 7 2 2 xs7).C.getD 0 []).getD 0 0 * ((takeL 7 2 2 xs7).U.getD 0 []).getD 0 0 by simp [sm], ho.2, Int.one_mul] at hm
    have e1 : (rowOf 2 xs7 0).getD 0 0 = 0 := by decide
    rw [e1] at hm
    have hg := hr.2.1.getD (by decide) 0
    rw [mod_small hg.1 hg.2] at hm
    have hne := hr.2.2.2.2.2
    have hlt := hr.2.2.1
    rcases Nat.lt_or_ge ((takeL 7 2 2 xs7).cols.getD 0 0) 1 with hc | hc
    · have : (takeL 7 2 2 xs7).cols.getD 0 0 = 0 := by omega
      rw [this] at hne
      exact absurd hm.symm hne
    · omega
  match e : (takeL 7 2 2 xs7).cols, hl with
  | [a, b], _ =>
    rw [e] at h0
    have h0 : a = 1 := h0
    exact ⟨(b : Int), by unfold colsZ; rw [e, h0]; rfl⟩
theorem minor7 : minorL 7 2 2 xs7 = xs7 := by
  have h := takeL_ok (p := 7) (m := 2) (n := 2) (xs := xs7) (by decide) fld7 ok7.hx
  have hl : (risL 2 (takeL 7 2 2 xs7).cols).length = 2 := by rw [risL_len h.cols_nodup fun c hc => h.cols_lt hc, h.lk, rank7]
  have e : risL 2 (takeL 7 2 2 xs7).cols = List.range 2 := List.filter_sublist.eq_of_length (by rw [List.length_range]; exact hl)
  unfold minorL
  rw [rank7, rows7, e]
  decide
theorem make7 (r : Nat) : makeL 7 ((takeL 7 2 2 xs7).C.map (padL r)) (takeL 7 2 2 xs7).U 2 2 = xs7 := make_take (by decide) fld7 ok7.hx rfl (by decide) r
end Go.Proofs.Ytfpmcajndgkgeaa
