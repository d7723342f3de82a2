/- Package tape: numbers that are drawn. -/
import Derived.Test.YtcganfmlfoebpaaTp1
import Derived.Test.YtcganfmlfoebpaaClone
import Derived.Test.YtcganfmlfoebpaaStep
import Derived.Test.YtcganfmlfoebpaaDot
import Derived.Deep.RegionLaw
namespace Go.Proofs.Ytcganfmlfoebpaa
open Go.RowKit Go.Maps

/-- numbers that are drawn, under way: the answer's box, the tape's, its words, the numbers -/
structure Dr (w0 w : World) (gZ gB base : Nat) (K : Nat) (cv rv : Value) (xs l : List Int) : Prop where
  Z : Blk w gZ 25 #[.slice none 0 0, .int .i64 0]
  B : Blk w gB 25 #[cv, .int .i64 K]
  words : w.ownsRow w0.heap.size 22 1 cv xs.length (xs.map (Value.int .u64))
  own : w.ownsRow base 22 1 rv l.length (l.map (Value.int .u64))
  ext : Ext w0 w
  hZ : w0.heap.size ≤ gZ
  hB : w0.heap.size ≤ gB
  ne : gZ ≠ gB
  lo : gZ < base ∧ gB < base ∧ w0.heap.size ≤ base
  cvlo : ∀ b, cv.ownBlock = some b → b < base
  size : base ≤ w.heap.size
theorem Dr.ext' {w0 w w' : World} {gZ gB base K : Nat} {cv rv : Value} {xs l : List Int} (d : Dr w0 w gZ gB base K cv rv xs l) (x : Ext w w') : Dr w0 w' gZ gB base K cv rv xs l :=
  ⟨d.Z.ext x, d.B.ext x, ownsRow_ext d.words x, ownsRow_ext d.own x, d.ext.trans x, d.hZ, d.hB, d.ne, d.lo, d.cvlo, Nat.le_trans d.size x.size⟩
/-- the place moves on -/
theorem Dr.next {w0 w : World} {gZ gB base K : Nat} {cv rv : Value} {xs l : List Int} (d : Dr w0 w gZ gB base K cv rv xs l) : Dr w0 (w.setCell ⟨gB, 1, none⟩ (.int .i64 ((K : Int) + 1))) gZ gB base (K + 1) cv rv xs l :=
  ⟨d.Z.two 1 _ d.ne, by have := d.B.set_ 1 (.int .i64 ((K : Int) + 1)); simpa using this, own_set d.words d.B (by decide) 1 _, own_set d.own d.B (by decide) 1 _, d.ext.setCell d.hB _, d.hZ, d.hB, d.ne, d.lo, d.cvlo, by simpa [World.setCell] using d.size⟩
/-- a number more -/
theorem Dr.more {w0 w w' : World} {gZ gB base K : Nat} {cv rv v' : Value} {xs l : List Int} {y : Int} (d : Dr w0 w gZ gB base K cv rv xs l) (hg : w.grownBy w' rv.ownBlock) (ho : w'.ownsRow base 22 1 v' (l.length + 1) (l.map (Value.int .u64) ++ [.int .u64 y])) :
    Dr w0 w' gZ gB base K cv v' xs (l ++ [y]) := by
  have hrv : ∀ b, b < base → rv.ownBlock ≠ some b := fun b hb e => by have := (d.own.lt b e).1; omega
  refine ⟨d.Z.grown hg (hrv _ d.lo.1), d.B.grown hg (hrv _ d.lo.2.1), d.words.kept hg ?_, by rw [List.length_append, List.map_append]; exact ho, d.ext.grown hg fun b e => Nat.le_trans d.lo.2.2 (d.own.lt b e).1, d.hZ, d.hB, d.ne, d.lo, d.cvlo, Nat.le_trans d.size hg.size⟩
  cases e : cv.ownBlock with
  | none => exact .inl rfl
  | some b => exact .inr fun e2 => hrv b (d.cvlo b e) e2.symm

/-- may so many numbers be drawn? -/
def dMay (p n k : Int) (xs : List Int) : Bool := rightB p && (tapeB k xs && (decide (0 ≤ n) && decide (n ≤ 8192)))
/-- what is told: the error, the numbers, the place -/
def drE (p m n k : Int) (xs : List Int) : Int := if dMay p n k xs then (if okW (goodB p m) n.toNat (xs.drop k.toNat) then 0 else 9) else 1
def drL (p m n k : Int) (xs : List Int) : List Int := if dMay p n k xs && okW (goodB p m) n.toNat (xs.drop k.toNat) then (numsW (goodB p m) n.toNat (xs.drop k.toNat)).map (fun x => x % p) else []
def drK (p m n k : Int) (xs : List Int) : Int := if dMay p n k xs then ((k.toNat + used (goodB p m) n.toNat (xs.drop k.toNat) : Nat) : Int) else k
theorem dMay_true {p n k : Int} {xs : List Int} (h : dMay p n k xs = true) : rightB p = true ∧ xs.length ≤ 65536 ∧ ∃ K N : Nat, k = K ∧ K ≤ xs.length ∧ n = N ∧ N ≤ 8192 := by
  unfold dMay at h
  simp only [Bool.and_eq_true, decide_eq_true_eq] at h
  obtain ⟨h1, h2, h3, h4⟩ := h
  obtain ⟨h5, K, rfl, h6⟩ := tapeB_mk h2
  obtain ⟨N, rfl⟩ := Int.eq_ofNat_of_zero_le h3
  exact ⟨h1, h5, K, N, rfl, h6, rfl, by omega⟩
theorem dr_no {p n k : Int} {xs : List Int} (m : Int) (h : dMay p n k xs = false) : drE p m n k xs = 1 ∧ drL p m n k xs = [] ∧ drK p m n k xs = k := by
  unfold drE drL drK; rw [h]; exact ⟨rfl, rfl, rfl⟩
theorem dr_short {p : Int} {N K : Nat} {xs : List Int} {m : Int} (h : dMay p N K xs = true) (h' : okW (goodB p m) N (xs.drop K) = false) : drE p m N K xs = 9 ∧ drL p m N K xs = [] ∧ drK p m N K xs = ((K + used (goodB p m) N (xs.drop K) : Nat) : Int) := by
  unfold drE drL drK; rw [h]; simp [h']
theorem dr_yes {p : Int} {N K : Nat} {xs : List Int} {m : Int} (h : dMay p N K xs = true) (h' : okW (goodB p m) N (xs.drop K) = true) : drE p m N K xs = 0 ∧ drL p m N K xs = (numsW (goodB p m) N (xs.drop K)).map (fun x => x % p) ∧ drK p m N K xs = ((K + used (goodB p m) N (xs.drop K) : Nat) : Int) := by
  unfold drE drL drK; rw [h]; simp [h']
def RetDr (p m n k : Int) (xs : List Int) (w : World) (e : Ending) (w' : World) : Prop :=
  ∃ u v', e = .returned (.tuple #[u, tapeV v' (drK p m n k xs), .int .i64 (drE p m n k xs)]) ∧ w'.ownsRow w.heap.size 22 1 u (drL p m n k xs).length ((drL p m n k xs).map (Value.int .u64)) ∧ w'.ownsRow w.heap.size 22 1 v' xs.length (xs.map (Value.int .u64)) ∧ Ext w w'
theorem dr_len {p m n k : Int} {xs : List Int} (h : drE p m n k xs = 0) : (drL p m n k xs).length = n.toNat := by
  unfold drE at h
  unfold drL
  cases hM : dMay p n k xs
  · rw [hM] at h; simp at h
  · cases hO : okW (goodB p m) n.toNat (xs.drop k.toNat)
    · rw [hM, hO] at h; simp at h
    · simp [okW] at hO
      simp [numsW, List.length_take]
      omega
theorem dr_err (p m n k : Int) (xs : List Int) : drE p m n k xs = 0 ∨ drE p m n k xs = 1 ∨ drE p m n k xs = 9 := by
  unfold drE
  split
  · split
    · exact .inl rfl
    · exact .inr (.inr rfl)
  · exact .inr (.inl rfl)

set_option maxRecDepth 100000 in
set_option maxHeartbeats 2000000 in
theorem tpDrawn (p m n k : Int) (v : Value) (xs : List Int) (w : World) (h0 : 0 ≤ p) (h1 : p ≤ 18446744073709551615) (hn : -9223372036854775808 ≤ n ∧ n ≤ 9223372036854775807) (hk : -9223372036854775808 ≤ k ∧ k ≤ 9223372036854775807)
    (hv : Ints .u64 w v xs) (hx : U64s xs) (hl : xs.length ≤ 1000000) :
    Calls Try.prog 23 #[.int .u64 p, tapeV v k, .int .i64 n, .int .u64 m] w (RetDr p m n k xs w) := by
  obtain ⟨i0, hi, hz0, hz1, hz2⟩ := info_parts info_u64p
  have Hv := hid hv; have Hx := hid hx
  obtain ⟨a, cap, rfl, k1, k2, k3⟩ := hv
  have C1 := hid fun (W : World) (hW : Ext w W) => clone_own (.slice a xs.length cap) xs W (Hv.out.ext hW) hl
  clear k3 hx
  unfold tapeV
  go_enter Try.func23, Try.ntmps23
  go_upto_region 1 with fail
  have HA0 := hid ((Blk.new w 25 #[.slice a xs.length cap, .int .i64 k]).ext ((Ext.refl _).alloc (.cells #[.slice none 0 0, .int .i64 0] 25)))
  have HZ0 := hid (Blk.new (w.alloc (.cells #[.slice a xs.length cap, .int .i64 k] 25)) 25 #[.slice none 0 0, .int .i64 0])
  go_cut [11] from 16 to 21 (fun b w' => ∃ g cv, b = .pointer (some ⟨g, 0, none⟩) ∧ Blk w' g 25 #[cv, .int .i64 k] ∧ w'.ownsRow ((w.alloc (.cells #[.slice a xs.length cap, .int .i64 k] 25)).alloc (.cells #[.slice none 0 0, .int .i64 0] 25)).heap.size 22 1 cv xs.length (xs.map (Value.int .u64)) ∧ Ext ((w.alloc (.cells #[.slice a xs.length cap, .int .i64 k] 25)).alloc (.cells #[.slice none 0 0, .int .i64 0] 25)) w' ∧ w.heap.size + 1 < g)
  case first =>
    go_region_law (first
      | (go_simp; go_at_call 24; refine (C1.out (((w.alloc (.cells #[.slice a xs.length cap, .int .i64 k] 25)).alloc (.cells #[.slice none 0 0, .int .i64 0] 25)).drew.alloc (.cells #[.slice none 0 0, .int .i64 0] 25)) (by repeat (first | exact Ext.refl _ | assumption | refine Ext.drew ?_ | refine Ext.drewN ?_ _ | refine Ext.alloc ?_ _ | refine Ext.trans ?_ (by assumption)))).mono ?_; rintro _ w3 ⟨v3, rfl, ho3, x3⟩
         have x3' : Ext ((w.alloc (.cells #[.slice a xs.length cap, .int .i64 k] 25)).alloc (.cells #[.slice none 0 0, .int .i64 0] 25)) w3 := Ext.trans (by repeat (first | exact Ext.refl _ | assumption | refine Ext.drew ?_ | refine Ext.drewN ?_ _ | refine Ext.alloc ?_ _ | refine Ext.trans ?_ (by assumption))) x3
         have Ho3 := hid (ownsRow_low ho3 (base' := ((w.alloc (.cells #[.slice a xs.length cap, .int .i64 k] 25)).alloc (.cells #[.slice none 0 0, .int .i64 0] 25)).heap.size) (by simp))
         obtain ⟨p0, p1⟩ := (HA0.out.ext x3').at2
         have hB3 : Blk w3 (w.heap.size + 1 + 1) 25 #[.slice none 0 0, .int .i64 0] := (Blk.at_ (by simp)).ext x3
         obtain ⟨r0, r1⟩ := hB3.at2
         have f0 := hB3.frozen 0
         have f1 := hB3.frozen 1
         obtain ⟨a3, c3, rfl, -, -, -, -⟩ := WRow.of_owns ho3
         have HB3 := hid hB3
         clear ho3 hB3)
      | (go_simp; go_at_call 24; refine (C1.out _ (by repeat (first | exact Ext.refl _ | assumption | refine Ext.drew ?_ | refine Ext.drewN ?_ _ | refine Ext.alloc ?_ _ | refine Ext.trans ?_ (by assumption)))).mono ?_; rintro _ w3 ⟨v3, rfl, ho3, x3⟩
         have x3' : Ext ((w.alloc (.cells #[.slice a xs.length cap, .int .i64 k] 25)).alloc (.cells #[.slice none 0 0, .int .i64 0] 25)) w3 := Ext.trans (by repeat (first | exact Ext.refl _ | assumption | refine Ext.drew ?_ | refine Ext.drewN ?_ _ | refine Ext.alloc ?_ _ | refine Ext.trans ?_ (by assumption))) x3
         have Ho3 := hid (ownsRow_low ho3 (base' := ((w.alloc (.cells #[.slice a xs.length cap, .int .i64 k] 25)).alloc (.cells #[.slice none 0 0, .int .i64 0] 25)).heap.size) (by simp))
         obtain ⟨p0, p1⟩ := (HA0.out.ext x3').at2
         obtain ⟨q0, q1⟩ := (HA0.out.ext (x3'.alloc (.cells #[.slice none 0 0, .int .i64 0] 25))).at2
         obtain ⟨a3, c3, rfl, -, -, -, -⟩ := WRow.of_owns ho3
         clear ho3)
      | fail)
    all_goals first
      | (go_wp2_with fail
         go_meet
         exact ⟨_, _, rfl, Blk.new _ _ _, Ho3.out.alloc _, x3'.alloc _, by have := x3'.size; simp at this; omega⟩)
      | (go_wp2_with fail
         go_meet
         exact ⟨_, _, rfl, HB3.out.put2 _ _, own_set (own_set Ho3.out HB3.out (by decide) 0 _) (HB3.out.set_ 0 _) (by decide) 1 _, (x3'.setCell (by simp) _).setCell (by simp) _, by omega⟩)
  case rest =>
    obtain ⟨gB, cv, rfl, hB, hI, hx1, hg⟩ := hcut
    have hA := HA0.out.ext hx1
    have hZ := HZ0.out.ext hx1
    have hs : w.heap.size + 1 + 1 ≤ wc.heap.size := by have := hx1.size; simp at this; omega
    have hww : Ext w ((w.alloc (.cells #[.slice a xs.length cap, .int .i64 k] 25)).alloc (.cells #[.slice none 0 0, .int .i64 0] 25)) := ((Ext.refl _).alloc _).alloc _
    have hxw := hww.trans hx1
    rw [alloc_size] at hZ
    have hI2 : wc.ownsRow w.heap.size 22 1 cv xs.length (xs.map (Value.int .u64)) := ownsRow_low hI (by rw [alloc_size, alloc_size]; omega)
    have hcvlo : ∀ b, cv.ownBlock = some b → b < wc.heap.size := fun b e => (hI.lt b e).2
    obtain ⟨ac, cc, rfl, hcc1, hcc2, -, hcc3⟩ := WRow.of_owns hI2
    have CR := hid (right_any p wc h0 h1)
    have CT := hid (tpRight (.slice a xs.length cap) k xs wc (Hv.out.ext hxw))
    obtain ⟨b0, b1⟩ := hA.at2
    have HA := hid hA; have HZ := hid hZ; have HB := hid hB; have HI := hid hI2; have HCL := hid hcvlo; have HXW := hid hxw; have HC3 := hid hcc3
    clear hA hZ hB hI hI2 hcvlo hxw hcc3 HA0 HZ0 hww hx1
    unfold tapeV at CT
    go_upto_region 2 with fail
    obtain ⟨D, eD⟩ : ∃ D, dMay p n k xs = D := ⟨_, rfl⟩
    have ED := hid eD
    go_cut [37] from 22 to 36 (fun c w' => c = .bool (!D) ∧ Ext wc w')
    case first =>
      have hD := hid (show dMay p n k xs = (rightB p && (tapeB k xs && (decide (0 ≤ n) && decide (n ≤ 8192)))) from rfl)
      obtain ⟨R, eR⟩ : ∃ R, rightB p = R := ⟨_, rfl⟩
      obtain ⟨T, eT⟩ : ∃ T, tapeB k xs = T := ⟨_, rfl⟩
      rw [eR] at CR hD; rw [eT] at CT hD; rw [eD] at hD
      clear eD eR eT
      cases R with
      | false =>
        obtain rfl : D = false := by simpa using hD.out
        clear hD
        go_wp2_with (go_at_call 21; refine CR.out.mono ?_; rintro _ _ ⟨rfl, rfl⟩)
        go_meet
        exact ⟨rfl, Ext.refl _⟩
      | true =>
        cases T with
        | false =>
          obtain rfl : D = false := by simpa using hD.out
          clear hD
          go_wp2_with (first | (go_at_call 21; refine CR.out.mono ?_; rintro _ _ ⟨rfl, rfl⟩) | (go_at_call 12; refine CT.out.mono ?_; rintro _ wR ⟨rfl, xR⟩))
          go_meet
          exact ⟨rfl, xR⟩
        | true =>
          by_cases hn0 : 0 ≤ n
          · by_cases hn1 : n ≤ 8192
            · obtain rfl : D = true := by simpa [hn0, hn1] using hD.out
              clear hD
              go_wp2_with (first | (go_at_call 21; refine CR.out.mono ?_; rintro _ _ ⟨rfl, rfl⟩) | (go_at_call 12; refine CT.out.mono ?_; rintro _ wR ⟨rfl, xR⟩))
              go_meet
              exact ⟨congrArg Value.bool (by simp; omega), xR⟩
            · obtain rfl : D = false := by simpa [hn0, hn1] using hD.out
              clear hD
              go_wp2_with (first | (go_at_call 21; refine CR.out.mono ?_; rintro _ _ ⟨rfl, rfl⟩) | (go_at_call 12; refine CT.out.mono ?_; rintro _ wR ⟨rfl, xR⟩))
              go_meet
              exact ⟨congrArg Value.bool (by simp; try omega), xR⟩
          · obtain rfl : D = false := by simpa [hn0] using hD.out
            clear hD
            go_wp2_with (first | (go_at_call 21; refine CR.out.mono ?_; rintro _ _ ⟨rfl, rfl⟩) | (go_at_call 12; refine CT.out.mono ?_; rintro _ wR ⟨rfl, xR⟩))
            go_meet
            exact ⟨congrArg Value.bool (by simp; try omega), xR⟩
    case rest =>
      rename World => wi
      obtain ⟨rfl, hxi⟩ := hcut
      clear CR CT b0 b1 HA eD
      have hBi := HB.out.ext hxi
      have hZi := HZ.out.ext hxi
      cases D with
      | false =>
        obtain ⟨b0, b1⟩ := hBi.at2
        obtain ⟨z0, z1⟩ := hZi.at2
        have y0 := hZi.frozen 0
        have y1 := hZi.frozen 1
        have HZi := hid hZi
        clear hBi hZi
        go_wp2_with fail
        go_region
        go_wp2_with fail
        refine bodyPost_ret (results_tmp_cell_tmp rfl _ _ (w.heap.size + 1) 25 _ (0, 0) _ rfl (HZi.out.put2 _ _) Try.underlying25 rfl (by kernel_rfl)) rfl ?_
        obtain ⟨d1, d2, d3⟩ := dr_no m ED.out
        exact ⟨.slice none 0 0, .slice ac xs.length cc, by rw [d1, d3]; rfl, by rw [d2]; exact World.ownsRow_nil _ _ _ _, ownsRow_ext (own_set (own_set (ownsRow_ext HI.out hxi) HZi.out (by decide) 0 _) (HZi.out.set_ 0 _) (by decide) 1 _) ((Ext.refl _).drew), (((HXW.out.trans hxi).setCell (by simp) _).setCell (by simp) _).drew⟩
      | true =>
        obtain ⟨hR, hl2, K0, N, rfl, hK0, rfl, hN⟩ := dMay_true ED.out
        have hmk : ∀ W, (Instr.makeSlice 23 (.int .i64 0) (.int .i64 (N : Int))).run Try.prog W = .ok (.slice (some ⟨W.heap.size, 0, none⟩) 0 N) (W.alloc (.cells (madeCells #[Value.int .u64 0] N) 22)) :=
          fun W => make_ints (P := Try.prog) 23 22 .u64 8 (by omega) (by kernel_rfl) (by kernel_rfl) 0 N (by omega) (by omega) W
        have hsi := hxi.size
        have HD0 := hid (show Dr w (wi.alloc (.cells (madeCells #[Value.int .u64 0] N) 22)) (w.heap.size + 1) gB wi.heap.size K0 (.slice ac xs.length cc) (.slice (some ⟨wi.heap.size, 0, none⟩) 0 N) xs (([] : List Int).map fun x => x % p) from
          ⟨hZi.ext ((Ext.refl _).alloc _), hBi.ext ((Ext.refl _).alloc _), (ownsRow_ext HI.out hxi).alloc _, own_made wi 22 0 N (by omega) (by omega), (HXW.out.trans hxi).alloc _, by omega, by omega, by omega, ⟨by omega, by have := hBi.lt; exact this, by omega⟩, fun b e => Nat.lt_of_lt_of_le (HCL.out b e) hsi, by rw [alloc_size]; omega⟩)
        have HR0 := hid (Rd.start (g := goodB p m) (n := N) hK0)
        clear hZi hBi hsi HCL HC3 HI HB HZ
        go_wp2_with fail
        go_loopw [12, 13, 14, 15] (fun rv _ _ _ wr => ∃ (K : Nat) (ws : List Int), Hid (Dr w wr (w.heap.size + 1) gB wi.heap.size K (.slice ac xs.length cc) rv xs (ws.map fun x => x % p)) ∧ Hid (Rd (goodB p m) xs K0 N K ws)) (fun _ _ _ _ wr => xs.length - cellNat wr gB 1)
        case atStart => exact ⟨K0, [], HD0, HR0⟩
        case round =>
          clear HD0 HR0
          obtain ⟨K, ws, HD, HR⟩ := hrel
          rename World => wr
          obtain ⟨j, ej⟩ : ∃ j, ws.length = j := ⟨_, rfl⟩
          obtain ⟨ys, eys⟩ : ∃ ys, (ws.map fun x => x % p) = ys := ⟨_, rfl⟩
          have eyl : ys.length = j := by rw [← eys, List.length_map, ej]
          rw [eys] at HD
          have hown := HD.out.own
          rw [eyl] at hown
          have Hown := hid hown
          obtain ⟨ar, cr, rfl, hr1, hr2, -, -⟩ := WRow.of_owns hown
          have EYS := hid eys; have EJ := hid ej; have EYL := hid eyl
          have hKl := HR.out.le
          have hjl : j ≤ N := by rw [← ej]; exact HR.out.few
          obtain ⟨b0, b1⟩ := HD.out.B.at2
          obtain ⟨z0, z1⟩ := HD.out.Z.at2
          have y0 := HD.out.Z.frozen 0
          have y1 := HD.out.Z.frozen 1
          have fB := HD.out.B.frozen 1
          have hm1' := cellNat_of b1
          have HM := hid hm1'
          have HRet := hid fun (u v : Value) => ((HD.out.Z.put2 u v))
          clear hown eys ej eyl hm1'
          by_cases hlt : j < N
          · by_cases hK : K = xs.length
            · have e0 : ((K : Int) == (xs.length : Int)) = true := by simp [hK]
              have Hov := hid (HR.out.over (by rw [EJ.out]; exact hlt) hK)
              obtain ⟨d1, d2, d3⟩ := dr_short ED.out Hov.out.1
              rw [Hov.out.2, ← hK] at d3
              have D1 := hid d1; have D2 := hid d2; have D3 := hid d3
              clear d1 d2 d3 hK
              go_wp2_with fail
              go_region
              go_wp2_with fail
              refine bodyPost_ret (results_tmp_cell_tmp rfl _ _ (w.heap.size + 1) 25 _ (0, 0) _ rfl (HRet.out _ _) Try.underlying25 rfl (by kernel_rfl)) rfl ?_
              exact ⟨.slice none 0 0, .slice ac xs.length cc, by rw [D1.out, D3.out]; rfl, by rw [D2.out]; exact World.ownsRow_nil _ _ _ _, ownsRow_ext (own_set (own_set HD.out.words HD.out.Z (by decide) 0 _) (HD.out.Z.set_ 0 _) (by decide) 1 _) ((Ext.refl _).drew), ((HD.out.ext.setCell HD.out.hZ _).setCell HD.out.hZ _).drew⟩
            · have hKl2 : K < xs.length := by omega
              have e0 : ((K : Int) == (xs.length : Int)) = false := by simp; omega
              obtain ⟨a', c', e, -, -, -, h5⟩ := WRow.of_owns HD.out.words
              injection e with e1 e2 e3
              obtain ⟨gc, rfl, hgc, hw⟩ := h5 (by omega)
              subst e3
              subst e1
              have c1 := (hw.2 K hKl2).1
              rw [Nat.zero_add] at c1
              obtain ⟨x, ex⟩ : ∃ x, xs.getD K 0 = x := ⟨_, rfl⟩
              have hx := U64s.get Hx.out hKl2
              rw [ex] at c1 hx
              have EX := hid ex
              have HN := hid HD.out.next
              have CC := hid fun W => tpCounts p x W h0 h1
              have CN := hid fun W => norm_yes p x W hR hx.1
              have gx : goodB p m x = (cntB p x && decide (m ≤ x % p)) := rfl
              have GX := hid gx
              have HK := hid hKl2
              clear hw h5 ex gx hK e2
              cases hC : cntB p x with
              | false =>
                rw [hC] at CC GX
                clear hC
                go_wp2_with (go_at_call 13; refine (CC.out _).mono ?_; rintro _ _ ⟨rfl, rfl⟩)
                go_roundw
                case rel => (repeat apply Exists.intro); exact ⟨⟨K + 1, ws, by rw [EYS.out]; exact HN, hid (HR.out.bad HK.out (by rw [EJ.out]; exact hlt) (by rw [EX.out, GX.out]; rfl))⟩, rfl⟩
                case measure => rw [cellNat_of (HN.out.B.at2.2), HM.out]; simp; omega
              | true =>
                rw [hC] at CC GX
                obtain ⟨y, ey⟩ : ∃ y, x % p = y := ⟨_, rfl⟩
                rw [ey] at CN GX
                have hy := mod_range x (rightB_true hR).1
                rw [ey] at hy
                have EY := hid ey
                clear hC ey
                by_cases hmy : m ≤ y
                · have happ := hid (show (ys.map (Value.int .u64)) ++ [Value.int .u64 y] = ((ys ++ [y]).map (Value.int .u64)) by simp)
                  go_wp2_with (first
                    | (go_at_call 13; refine (CC.out _).mono ?_; rintro _ _ ⟨rfl, rfl⟩)
                    | (go_at_call 25; refine (CN.out _).mono ?_; rintro _ w5 ⟨rfl, x5⟩
                       have H5 := hid (HN.out.ext' x5)
                       have O5 := hid (ownsRow_ext (own_set Hown.out HD.out.B (by decide) 1 (.int .i64 ((K : Int) + 1))) x5)
                       have S5 := hid H5.out.size)
                    | (at_builtin; refine wpList_append_own _ rfl _ _ 23 rfl wi.heap.size 22 i0 (.int .u64 0) 1 8 Try.underlying23 hi hz0 hz1 hz2 rfl (by decide) _ _ _ rfl (O5.out.alloc _) ⟨w5.heap.size, 0, none⟩ 1 1 [.int .u64 y] rfl rfl (cells_new _ _ _ (by simp)) (by simp [Value.oneCell']) (by simp only [maxLen]; omega) (by omega) (by have := S5.out; simp; omega) ?_
                       intro v6 w6 hown6 hgrow6 hat6)
                    | fail)
                  have H6 := hid ((H5.out.ext' ((Ext.refl _).alloc (.cells #[.int .u64 y] 22))).more (y := y) hgrow6 (by rw [EYL.out]; exact hown6))
                  clear hown6 hgrow6 hat6
                  go_roundw
                  case rel => (repeat apply Exists.intro); exact ⟨⟨K + 1, ws ++ [x], by rw [List.map_append, EYS.out]; simp only [List.map_cons, List.map_nil]; rw [EY.out]; exact H6, hid (by have := HR.out.good HK.out (by rw [EJ.out]; exact hlt) (by rw [EX.out, GX.out]; simpa using hmy); rw [EX.out] at this; exact this)⟩, rfl⟩
                  case measure => rw [cellNat_of (H6.out.B.at2.2), HM.out]; simp; omega
                · go_wp2_with (first
                    | (go_at_call 13; refine (CC.out _).mono ?_; rintro _ _ ⟨rfl, rfl⟩)
                    | (go_at_call 25; refine (CN.out _).mono ?_; rintro _ w5 ⟨rfl, x5⟩
                       have H5 := hid (HN.out.ext' x5))
                    | fail)
                  go_roundw
                  case rel => (repeat apply Exists.intro); exact ⟨⟨K + 1, ws, by rw [EYS.out]; exact H5, hid (HR.out.bad HK.out (by rw [EJ.out]; exact hlt) (by rw [EX.out, GX.out]; simp; omega))⟩, rfl⟩
                  case measure => rw [cellNat_of (H5.out.B.at2.2), HM.out]; simp; omega
          · obtain rfl : j = N := by omega
            have Hdn := hid (HR.out.done EJ.out)
            obtain ⟨d1, d2, d3⟩ := dr_yes ED.out Hdn.out.2.1
            rw [Hdn.out.2.2] at d3
            rw [Hdn.out.1, EYS.out] at d2
            have D1 := hid d1; have D2 := hid d2; have D3 := hid d3
            clear d1 d2 d3
            go_wp2_with fail
            go_region
            go_wp2_with fail
            refine bodyPost_ret (results_tmp_cell_tmp rfl _ _ (w.heap.size + 1) 25 _ (0, 0) _ rfl (HRet.out _ _) Try.underlying25 rfl (by kernel_rfl)) rfl ?_
            exact ⟨.slice ar j cr, .slice ac xs.length cc, by rw [D1.out, D3.out]; rfl, by rw [D2.out, EYL.out]; exact ownsRow_low (ownsRow_ext (own_set (own_set Hown.out HD.out.Z (by decide) 0 _) (HD.out.Z.set_ 0 _) (by decide) 1 _) ((Ext.refl _).drew)) HD.out.lo.2.2, ownsRow_ext (own_set (own_set HD.out.words HD.out.Z (by decide) 0 _) (HD.out.Z.set_ 0 _) (by decide) 1 _) ((Ext.refl _).drew), ((HD.out.ext.setCell HD.out.hZ _).setCell HD.out.hZ _).drew⟩
end Go.Proofs.Ytcganfmlfoebpaa
