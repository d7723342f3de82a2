import Derived.Test.YthomeenmcajmdaaGreatDoorBun15
import Derived.Test.YthomeenmcajmdaaGreatDoorBun14
import Derived.Test.YthomeenmcajmdaaGreatDoorBun08
import Derived.Test.YthomeenmcajmdaaGreatDoorBun09
import Derived.Test.YthomeenmcajmdaaGreatDoorBun17
import Derived.Test.YthomeenmcajmdaaGreatDoorDiv
import Derived.Test.YthomeenmcajmdaaGreatDoorBun03
import Derived.Test.YthomeenmcajmdaaGreatDoorBun06
namespace Go.Proofs.YthomeenmcajmdaaGreatDoor
open Go.RowKit Go.Maps
structure BF (p : Int) : Prop where
  rise : (builtL p).Pairwise (· < ·)
  isP : IsP p
  two : p = 2 → builtL p = []
  big : p ≠ 2 → 3 ≤ p
  small : p < 16777216
  mem : ∀ n ∈ builtL p, n ∈ clo 24 p.toNat ∧ Reach p n
  top : p = 2 ∨ p ∈ builtL p
  down : ∀ n ∈ builtL p, ∀ q ∈ partsOf n, q.1 = 2 ∨ q.1 ∈ builtL p
theorem BF.all {p : Int} (h : BF p) {n : Int} (hn : n ∈ builtL p) : IsP n ∧ 3 ≤ n ∧ n ≤ p := by
  have h2 : p ≠ 2 := fun e => by rw [h.two e] at hn; simp at hn
  have h3 := h.big h2
  have hs := h.small
  have hc := (clo_ok 24 p.toNat (by rw [Int.toNat_of_nonneg (by omega)]; exact h.isP) (by omega) (by simpa using (show p.toNat < 16777216 by omega)) (by omega)).1 n (h.mem n hn).1
  exact ⟨hc.1, hc.2.1, by omega⟩
theorem BF.good {p : Int} (h : BF p) (h2 : p ≠ 2) : Good (clo 24 p.toNat) genA := by
  have h3 := h.big h2
  have hs := h.small
  exact clo_good (by rw [Int.toNat_of_nonneg (by omega)]; exact h.isP) (by omega) (by omega)
theorem BF.len {p : Int} (h : BF p) : (builtL p).length ≤ 24 := by
  by_cases h2 : p = 2
  · rw [h.two h2]; simp
  · have h3 := h.big h2
    have hs := h.small
    have := clo_few (p := p.toNat) (by rw [Int.toNat_of_nonneg (by omega)]; exact h.isP) (by omega) (by omega)
    have := nodup_le (builtL p) (clo 24 p.toNat) (h.rise.imp (by intro a b h; omega)) (fun n hn => (h.mem n hn).1)
    omega
set_option maxHeartbeats 1000000 in
theorem Build_at (p : Int) (w : World) (h0 : 0 ≤ p) (hlt : p < 16777216) (hT : Tab w) :
    Calls Tryz.prog 17 #[.int .u64 p] w fun e w' => ∃ v, Ret (.tuple #[v, .int .i64 (bErr p)]) w e w' ∧ Proofs w' v (bList p) ∧ (bErr p = 0 → BF p) := by
  by_cases h2 : p < 2
  · have e : bErr p = 1 := by rw [bErr, if_pos h2]
    rw [e, bList_no (by omega)]
    exact (Build_low p w h0 h2).mono fun e w' h => ⟨_, h, Proofs.nil, fun h => by omega⟩
  obtain ⟨P, rfl⟩ : ∃ P : Nat, p = P := ⟨p.toNat, by omega⟩
  by_cases h3 : P = 2
  · subst h3
    have hi : isB ((2 : Nat) : Int) = true := (isB_iff _).2 ⟨by omega, fun c h1 h2 => by have := Int.mul_le_mul h1 h1 (by omega) (by omega); omega⟩
    have e : bErr ((2 : Nat) : Int) = 0 := by rw [bErr, if_neg (by omega), hi, if_pos rfl]
    have hb : ([] : List Int) = builtL ((2 : Nat) : Int) := built_eq (by simp) (fun n => ⟨fun h => by simp at h, fun h => absurd rfl h.1⟩)
    rw [e, bList, if_pos e, ← hb]
    refine (Build_ok [] genA good_nil (by simp) _ w (by omega) (by omega) (.inl rfl) hT).mono fun e w' h => ?_
    obtain ⟨v, ss, h1, h2, h3, h4, _⟩ := h
    have hss : ss = [] := by
      cases ss with
      | nil => rfl
      | cons a l => have := (h4 a (by simp)).1; simp at this
    subst hss
    exact ⟨v, h1, h2, fun _ => ⟨by rw [← hb]; simp, (isB_iff _).1 hi, fun _ => hb.symm, fun h => absurd rfl h, by omega, fun n hn => by rw [← hb] at hn; simp at hn, .inl rfl, fun n hn => by rw [← hb] at hn; simp at hn⟩⟩
  · cases hpc : isB (P : Int) with
    | false =>
      have e : bErr (P : Int) = 6 := by rw [bErr, if_neg h2, hpc, if_neg Bool.false_ne_true]
      have hpd : partsD ((P : Int) - 1) = ((partsD ((P : Int) - 1)).1, 0) := by rw [← partsD_small (n := (P : Int) - 1) (by omega) (by omega)]
      rw [e, bList_no (by omega)]
      exact (Build_none P _ w (by omega) (by omega) hpd (by rw [primeB_C P (by omega) (by omega), isB_prm (by omega) (by omega)]; exact hpc) hT).mono fun e w' h => ⟨_, h, Proofs.nil, fun h => by omega⟩
    | true =>
      have e : bErr (P : Int) = 0 := by rw [bErr, if_neg h2, hpc, if_pos rfl]
      have hP := (isB_iff _).1 hpc
      have hG := clo_good hP (by omega) (by omega)
      have hf := clo_few hP (by omega) (by omega)
      have hh := clo_head hP (by omega) (by omega)
      rw [e, bList, if_pos e]
      refine (Build_ok (clo 24 P) genA hG (by omega) P w (by omega) (by omega) (.inr hh) hT).mono fun e w' h => ?_
      obtain ⟨v, ss, h1, h2, h3, h4, h5, h6⟩ := h
      have hne : (P : Int) ≠ 2 := by omega
      have hps := h5.resolve_left hne
      have hss : ss = builtL (P : Int) := built_eq h3 (fun n => ⟨fun hn => ⟨hne, (h4 n hn).2⟩, fun hn => hn.2 (· ∈ ss) hps (fun m q hm hq hq2 => (h6 m hm q hq).resolve_left hq2)⟩)
      subst hss
      exact ⟨v, h1, h2, fun _ => ⟨h3, hP, fun h => absurd h hne, fun _ => by omega, by omega, fun n hn => by rw [Int.toNat_natCast]; exact h4 n hn, h5, h6⟩⟩
theorem mkPrf_ok {p : Int} (h : BF p) : ∀ f ∈ (builtL p).map (mkPrf genA), f.Ok := by
  intro f hf
  obtain ⟨n, hn, rfl⟩ := List.mem_map.1 hf
  have ha := h.all hn
  have hs := h.small
  have h2 : p ≠ 2 := fun e => by rw [h.two e] at hn; simp at hn
  have hg := (h.good h2).pos n (h.mem n hn).1
  exact ⟨by simp only [mkPrf]; omega, by simp only [mkPrf]; omega, by simp only [mkPrf]; omega, by simp only [mkPrf]; omega, by simp only [mkPrf]; exact partsD_Ok _⟩
theorem bList_ok {p : Int} (h : bErr p = 0 → BF p) : ∀ f ∈ bList p, f.Ok := by
  rw [bList]
  split
  · exact mkPrf_ok (h (by assumption))
  · simp
theorem bList_shows {p : Int} (h : BF p) : showsB ((builtL p).map (mkPrf genA)) p = true := by
  have hlen := h.len
  have hget : ∀ k (hk : k < (builtL p).length), ((builtL p).map (mkPrf genA)).getD k .zero = mkPrf genA (builtL p)[k] := fun k hk => by simp [List.getD, List.getElem?_eq_getElem hk]
  have hfirst : firstD ((builtL p).map (mkPrf genA)) = ((builtL p).map (mkPrf genA)).length := by
    refine firstD_eq (Nat.le_refl _) (fun k hk => ?_) (fun h => by omega)
    rw [List.length_map] at hk
    have hn : (builtL p)[k] ∈ builtL p := List.getElem_mem hk
    have ha := h.all hn
    have hs := h.small
    have h2 : p ≠ 2 := fun e => by
      have : (builtL p).length = 0 := by rw [h.two e]; rfl
      omega
    have hG := h.good h2
    have hm := (h.mem _ hn).1
    rw [okAt, hget k hk]
    simp only [Bool.and_eq_true, decide_eq_true_eq]
    refine ⟨⟨by omega, ?_⟩, ?_⟩
    · cases k with
      | zero => simp only [lastD, mkPrf]; omega
      | succ k =>
        simp only [lastD]
        rw [hget k (by omega)]
        exact List.pairwise_iff_getElem.1 h.rise k (k + 1) (by omega) hk (by omega)
    · generalize hx : (builtL p)[k] = n at *
      obtain ⟨N, rfl⟩ : ∃ N : Nat, n = N := ⟨n.toNat, by omega⟩
      obtain ⟨g, eg, g1, g2, g3, _⟩ := gen_root ha.1 (by omega) (by omega)
      have hpf := partsD_full (hG.parts _ hm)
      simp only [provesB, mkPrf, Bool.and_eq_true, List.all_eq_true]
      refine ⟨⟨⟨⟨⟨decide_eq_true (by omega), ?_⟩, decide_eq_true ?_⟩, upB_steps hpf.2.2.2.1 hpf.2.2.1⟩, fun q hq => ?_⟩, hG.root _ hm⟩
      · exact hasB_iff.2 ⟨⟨by omega, by omega⟩, by omega⟩
      · have := parts_few (n := (N : Int) - 1) (by omega) (isP_odd ha.1 ha.2.1) (by omega)
        show (partsD ((N : Int) - 1)).1.length ≤ 20
        omega
      · rw [knownB, decide_eq_true_eq]
        rcases h.down _ hn q hq with h3 | h3
        · exact .inl h3
        · right
          have hle := parts_le (n := (N : Int) - 1) (by omega) (by omega) q hq
          obtain ⟨j, hj, ej⟩ := List.mem_iff_getElem.1 h3
          have hjk : j < k := by
            apply Classical.byContradiction
            intro hc
            by_cases e : j = k
            · subst e; omega
            · have := List.pairwise_iff_getElem.1 h.rise k j hk hj (by omega)
              omega
          rw [← List.map_take, List.map_map, List.mem_map]
          exact ⟨q.1, by rw [← ej]; exact List.mem_iff_getElem.2 ⟨j, by simp; omega, by simp⟩, rfl⟩
  rw [showsB, hfirst, decide_eq_true rfl, Bool.true_and, knownB, decide_eq_true_eq]
  rcases h.top with h1 | h1
  · exact .inl h1
  · exact .inr (by rw [List.map_map]; exact List.mem_map.2 ⟨p, h1, rfl⟩)
theorem bList_show {p : Int} (h : bErr p = 0 → BF p) (he : bErr p = 0) : showsB (bList p) p = true := by
  rw [bList, if_pos he]; exact bList_shows (h he)
end Go.Proofs.YthomeenmcajmdaaGreatDoor
namespace Go.Proofs.YthomeenmcajmdaaGreatDoor
open Go.RowKit Go.Maps
noncomputable def plT (k p r c : Int) (xs : List Int) : Tsk := ⟨k, p, bList p, r, c, xs, 0, 0, [], []⟩
noncomputable def plE (k p r c : Int) (xs : List Int) : Int := if bErr p = 0 then (if taskB (plT k p r c xs) = true then 0 else 1) else bErr p
noncomputable def plD (k p r c : Int) (xs : List Int) : Tsk := if plE k p r c xs = 0 then plT k p r c xs else Tsk.zero
def RetPl (T : Tsk) (E : Int) (w : World) (e : Ending) (w' : World) : Prop :=
  ∃ pv u, e = .returned (.tuple #[taskV T pv u (.slice none 0 0) (.slice none 0 0), .int .i64 E]) ∧ TkR w' T pv u (.slice none 0 0) (.slice none 0 0) ∧ TkZ T ∧ Ext w w'
def zeroC : Array Value := #[.int .i64 0, .int .u64 0, .slice none 0 0, .int .i64 0, .int .i64 0, .slice none 0 0, .int .i64 0, .int .i64 0, .slice none 0 0, .slice none 0 0]
theorem zeroC_u {j : Nat} {k : Int} (h : zeroC[j]? = some (.int .u64 k)) : j = 1 := by
  match j with
  | 1 => rfl
  | 0 | 2 | 3 | 4 | 5 | 6 | 7 | 8 | 9 => simp [zeroC] at h
  | j + 10 => simp [zeroC] at h
def put10 (w : World) (g : Nat) (a b c d e f h i j k : Value) : World :=
  (((((((((w.setCell ⟨g, 0, none⟩ a).setCell ⟨g, 1, none⟩ b).setCell ⟨g, 2, none⟩ c).setCell ⟨g, 3, none⟩ d).setCell ⟨g, 4, none⟩ e).setCell ⟨g, 5, none⟩ f).setCell ⟨g, 6, none⟩ h).setCell ⟨g, 7, none⟩ i).setCell ⟨g, 8, none⟩ j).setCell ⟨g, 9, none⟩ k
theorem put10_grown (w : World) (g : Nat) (a b c d e f h i j k : Value) : w.grownBy (put10 w g a b c d e f h i j k) (some g) :=
  (((((((((setCell_grown w ⟨g, 0, none⟩ a).trans (setCell_grown _ ⟨g, 1, none⟩ b)).trans (setCell_grown _ ⟨g, 2, none⟩ c)).trans (setCell_grown _ ⟨g, 3, none⟩ d)).trans (setCell_grown _ ⟨g, 4, none⟩ e)).trans (setCell_grown _ ⟨g, 5, none⟩ f)).trans (setCell_grown _ ⟨g, 6, none⟩ h)).trans (setCell_grown _ ⟨g, 7, none⟩ i)).trans (setCell_grown _ ⟨g, 8, none⟩ j)).trans (setCell_grown _ ⟨g, 9, none⟩ k)
theorem Blk.put10 {w : World} {g : Nat} {t : TypeId} (hB : Blk w g t zeroC) (a b c d e f h i j k : Value) : Blk (Proofs.YthomeenmcajmdaaGreatDoor.put10 w g a b c d e f h i j k) g t #[a, b, c, d, e, f, h, i, j, k] := by
  have := (((((((((hB.set_ 0 a).set_ 1 b).set_ 2 c).set_ 3 d).set_ 4 e).set_ 5 f).set_ 6 h).set_ 7 i).set_ 8 j).set_ 9 k
  simpa [zeroC, Proofs.YthomeenmcajmdaaGreatDoor.put10] using this
theorem Ext.put10 {w0 w : World} {g : Nat} (h0 : Ext w0 w) (hg : w0.heap.size ≤ g) (a b c d e f h i j k : Value) : Ext w0 (Proofs.YthomeenmcajmdaaGreatDoor.put10 w g a b c d e f h i j k) :=
  (((((((((h0.setCell (p := ⟨g, 0, none⟩) hg a).setCell (p := ⟨g, 1, none⟩) hg b).setCell (p := ⟨g, 2, none⟩) hg c).setCell (p := ⟨g, 3, none⟩) hg d).setCell (p := ⟨g, 4, none⟩) hg e).setCell (p := ⟨g, 5, none⟩) hg f).setCell (p := ⟨g, 6, none⟩) hg h).setCell (p := ⟨g, 7, none⟩) hg i).setCell (p := ⟨g, 8, none⟩) hg j).setCell (p := ⟨g, 9, none⟩) hg k
theorem WRow.put10 {w : World} {g o : Nat} {xs : List Int} (h0 : WRow w o 0 xs) (hne : o ≠ g) (a b c d e f h i j k : Value) : WRow (Proofs.YthomeenmcajmdaaGreatDoor.put10 w g a b c d e f h i j k) o 0 xs :=
  (((((((((h0.set_other hne).set_other hne).set_other hne).set_other hne).set_other hne).set_other hne).set_other hne).set_other hne).set_other hne).set_other hne
theorem Parts.kept {w w' : World} {g : Nat} {t : TypeId} {v : Value} {ps : List (Int × Int)} (h : Parts w v ps) (hB : Blk w g t zeroC) (hg : w.grownBy w' (some g)) : Parts w' v ps := by
  obtain ⟨a, cap, rfl, h1, h2, h3⟩ := h
  refine ⟨a, cap, rfl, h1, h2, fun hp => ?_⟩
  obtain ⟨b, off, rfl, hb, hc⟩ := h3 hp
  have hne : b ≠ g := fun e => by
    subst e
    have c1 := (hc 0 hp).1
    have c2 := (hc 0 hp).2
    rw [hB.cell] at c1 c2
    have := zeroC_u c1
    rw [show off + 0 * 2 + 1 = 2 by omega] at c2
    simp [zeroC] at c2
  exact ⟨b, off, rfl, Nat.lt_of_lt_of_le hb hg.size, fun j hj => ⟨hg.cell (hc j hj).1 (by simpa using hne), hg.cell (hc j hj).2 (by simpa using hne)⟩⟩
theorem Proofs.kept {w w' : World} {g : Nat} {t : TypeId} {v : Value} {l : List Prf} (h : Proofs w v l) (hB : Blk w g t zeroC) (hg : w.grownBy w' (some g)) : Proofs w' v l := by
  obtain ⟨a, cap, rfl, h1, h2, h3⟩ := h
  refine ⟨a, cap, rfl, h1, h2, fun hp => ?_⟩
  obtain ⟨b, off, rfl, hb, hc⟩ := h3 hp
  have hne : b ≠ g := fun e => by
    subst e
    have c1 := (hc 0 hp).1
    have c2 := (hc 0 hp).2.1
    rw [hB.cell] at c1 c2
    have := zeroC_u c1
    have := zeroC_u c2
    omega
  refine ⟨b, off, rfl, Nat.lt_of_lt_of_le hb hg.size, fun j hj => ?_⟩
  obtain ⟨k1, k2, v', k3, k4⟩ := hc j hj
  exact ⟨hg.cell k1 (by simpa using hne), hg.cell k2 (by simpa using hne), v', hg.cell k3 (by simpa using hne), k4.kept hB hg⟩
theorem results_task {P : Program} {fn : Func} {p u : Tmp} {ty : TypeId} (h : fn.results = #[.cell p ty, .tmp u]) (tmps : Array Value) (w : World) (g : Nat) (t : TypeId) (cs : Array Value) (fr : Nat × Nat) (d : TypeDesc)
    (hp : tmps.getD p undef = .pointer (some ⟨g, 0, none⟩)) (hg : w.heap[g]? = some (.cells cs t fr))
    (hu : P.underlying ty = some d) (hd : (match d with | .struct _ | .array _ _ => true | _ => false) = true) (hi : (P.info? ty).map (·.size) = some cs.size) :
    (results fn tmps).run P w = .ok (.tuple #[.agg cs, tmps.getD u undef]) w := by
  have hp' : tmps[p]?.getD undef = .pointer (some ⟨g, 0, none⟩) := by simpa using hp
  simp [results, h, hp', asAddr, run_loadVar_row w g t ty cs fr d hg hu hd hi, Result.andThen]
theorem plT_z {k p r c : Int} {xs : List Int} (h0 : 0 ≤ p) (hlt : p < 16777216) (hx : U64s xs) (hf : bErr p = 0 → BF p) : TkZ (plT k p r c xs) :=
  ⟨h0, by show p ≤ _; omega, bList_ok hf, hx, by simp [U64s, plT], by simp [U64s, plT]⟩
set_option maxHeartbeats 2000000 in
theorem tkPlain (k p r c : Int) (u : Value) (xs : List Int) (w : World) (h0 : 0 ≤ p) (hlt : p < 16777216) (hv : Ints .u64 w u xs) (hx : U64s xs) (hT : Tab w) :
    Calls Tryz.prog 16 #[.int .i64 k, .int .u64 p, matV r c u] w (RetPl (plD k p r c xs) (plE k p r c xs) w) := by
  have C1 := hid fun (W : World) (hW : Ext w W) => Build_at p W h0 hlt (hT.ext hW)
  by_cases he : bErr p = 0
  · rw [he] at C1
    have C2 := hid fun (W : World) (pv : Value) (hW : Ext w W) (hp : Proofs W pv (bList p)) (hf : BF p) => tkRight (plT k p r c xs) pv u (.slice none 0 0) (.slice none 0 0) W ⟨hp, hv.ext hW, Ints.nil, Ints.nil⟩ (plT_z h0 hlt hx fun _ => hf)
    have HZ := hid fun (hf : BF p) => plT_z (k := k) (r := r) (c := c) h0 hlt hx fun _ => hf
    have hmat := hid fun (h : taskB (plT k p r c xs) = true) => (show xs.length ≤ 1000000 from by
      simp only [taskB, Bool.and_eq_true] at h
      obtain ⟨-, -, m, n, -, -, m1, m2, n1, n2, hl⟩ := (matB_iff hx).1 h.1
      have hl : xs.length = m * n := hl
      have := Nat.mul_le_mul m2 n2
      omega)
    cases hB : taskB (plT k p r c xs) with
    | false =>
      have e1 : plE k p r c xs = 1 := by unfold plE; rw [if_pos he, if_neg (by rw [hB]; decide)]
      have e2 : plD k p r c xs = Tsk.zero := by unfold plD; rw [if_neg (by rw [e1]; decide)]
      rw [e1, e2]
      rw [hB] at C2
      simp only [plT, taskV] at C2
      obtain ⟨a, cap, rfl, -, -, -⟩ := hv
      unfold matV
      have hA := hid (Blk.at_ (w := w.alloc (.cells #[.int .i64 r, .int .i64 c, .slice a xs.length cap] 26)) (t := 28) (cs := zeroC) (g := w.heap.size + 1) (by rw [alloc_size]))
      clear hx e1 e2 hT he hB hmat HZ
      go_enter Tryz.func16, Tryz.ntmps16
      go_wp2_with (first
        | (go_at_call 17; refine (C1.out _ (by repeat (first | exact Ext.refl _ | assumption | refine Ext.drew ?_ | refine Ext.drewN ?_ _ | refine Ext.alloc ?_ _ | refine Ext.trans ?_ (by assumption)))).mono ?_; rintro _ w1 ⟨v, ⟨rfl, x1⟩, hps, hbf⟩
           have HBF := hid (hbf (by trivial)); have HP := hid hps
           clear hbf
           obtain ⟨pa, pc, rfl, -, -, -⟩ := hps
           have hB1 := hid (hA.out.ext x1)
           obtain ⟨a0, a1, a2⟩ := ((Blk.new w 26 #[.int .i64 r, .int .i64 c, .slice a xs.length cap]).ext (((Ext.refl _).alloc _).trans x1)).at3
           obtain ⟨c0, c1, c2, c3, c4, c5, c6, c7, c8, c9⟩ := (Blk.new w1 28 #[.int .i64 k, .int .u64 p, .slice pa (bList p).length pc, .int .i64 r, .int .i64 c, .slice a xs.length cap, .int .i64 0, .int .i64 0, .slice none 0 0, .slice none 0 0]).at10)
        | (go_at_call 12; refine (C2.out _ _ (by repeat (first | exact Ext.refl _ | assumption | refine Ext.drew ?_ | refine Ext.drewN ?_ _ | refine Ext.alloc ?_ _ | refine Ext.trans ?_ (by assumption))) (HP.out.ext ((Ext.refl _).alloc _)) HBF.out).mono ?_; rintro _ w3 ⟨rfl, x3⟩
           have hB3 := hid (hB1.out.ext (((Ext.refl _).alloc _).trans x3))
           obtain ⟨b0, b1, b2, b3, b4, b5, b6, b7, b8, b9⟩ := hB3.out.at10
           have f0 := hB3.out.frozen 0; have f1 := hB3.out.frozen 1; have f2 := hB3.out.frozen 2; have f3 := hB3.out.frozen 3; have f4 := hB3.out.frozen 4; have f5 := hB3.out.frozen 5; have f6 := hB3.out.frozen 6; have f7 := hB3.out.frozen 7; have f8 := hB3.out.frozen 8; have f9 := hB3.out.frozen 9))
      have hE : Ext w (Proofs.YthomeenmcajmdaaGreatDoor.put10 w3 (w.heap.size + 1) (.int .i64 0) (.int .u64 0) (.slice none 0 0) (.int .i64 0) (.int .i64 0) (.slice none 0 0) (.int .i64 0) (.int .i64 0) (.slice none 0 0) (.slice none 0 0)) := Ext.put10 (by repeat (first | exact Ext.refl _ | assumption | refine Ext.drew ?_ | refine Ext.drewN ?_ _ | refine Ext.alloc ?_ _ | refine Ext.trans ?_ (by assumption))) (by omega) _ _ _ _ _ _ _ _ _ _
      refine bodyPost_ret (results_task rfl _ _ (w.heap.size + 1) 28 _ (0, 0) _ rfl (hB3.out.put10 _ _ _ _ _ _ _ _ _ _) Tryz.underlying28 rfl (by kernel_rfl)) rfl ?_
      exact ⟨_, _, rfl, TkR.zero _, TkZ.zero, hE⟩
    | true =>
      have e1 : plE k p r c xs = 0 := by unfold plE; rw [if_pos he, if_pos hB]
      have e2 : plD k p r c xs = plT k p r c xs := by unfold plD; rw [if_pos e1]
      rw [e1, e2]
      have hxl := hmat.out hB
      rw [hB] at C2
      simp only [plT, taskV] at C2
      have C3 := hid fun (W : World) (hW : Ext w W) => clone_any u xs W (hv.ext hW) hxl
      obtain ⟨a, cap, rfl, -, -, -⟩ := hv
      unfold matV
      have hA := hid (Blk.at_ (w := w.alloc (.cells #[.int .i64 r, .int .i64 c, .slice a xs.length cap] 26)) (t := 28) (cs := zeroC) (g := w.heap.size + 1) (by rw [alloc_size]))
      clear hx e1 e2 hT he hB hmat
      go_enter Tryz.func16, Tryz.ntmps16
      go_wp2_with (first
        | (go_at_call 17; refine (C1.out _ (by repeat (first | exact Ext.refl _ | assumption | refine Ext.drew ?_ | refine Ext.drewN ?_ _ | refine Ext.alloc ?_ _ | refine Ext.trans ?_ (by assumption)))).mono ?_; rintro _ w1 ⟨v, ⟨rfl, x1⟩, hps, hbf⟩
           have HBF := hid (hbf (by trivial)); have HP := hid hps
           clear hbf
           obtain ⟨pa, pc, rfl, -, -, -⟩ := hps
           have hB1 := hid (hA.out.ext x1)
           obtain ⟨a0, a1, a2⟩ := ((Blk.new w 26 #[.int .i64 r, .int .i64 c, .slice a xs.length cap]).ext (((Ext.refl _).alloc _).trans x1)).at3
           obtain ⟨c0, c1, c2, c3, c4, c5, c6, c7, c8, c9⟩ := (Blk.new w1 28 #[.int .i64 k, .int .u64 p, .slice pa (bList p).length pc, .int .i64 r, .int .i64 c, .slice a xs.length cap, .int .i64 0, .int .i64 0, .slice none 0 0, .slice none 0 0]).at10)
        | (go_at_call 12; refine (C2.out _ _ (by repeat (first | exact Ext.refl _ | assumption | refine Ext.drew ?_ | refine Ext.drewN ?_ _ | refine Ext.alloc ?_ _ | refine Ext.trans ?_ (by assumption))) (HP.out.ext ((Ext.refl _).alloc _)) HBF.out).mono ?_; rintro _ w3 ⟨rfl, x3⟩
           obtain ⟨a0, a1, a2⟩ := ((Blk.new w 26 #[.int .i64 r, .int .i64 c, .slice a xs.length cap]).ext ((((Ext.refl _).alloc _).trans x1).trans (((Ext.refl _).alloc _).trans x3))).at3)
        | (go_at_call 36; refine (C3.out _ (by repeat (first | exact Ext.refl _ | assumption | refine Ext.drew ?_ | refine Ext.drewN ?_ _ | refine Ext.alloc ?_ _ | refine Ext.trans ?_ (by assumption)))).mono ?_; rintro _ w4 ⟨ca, cc, rfl, m1, m2, m3, x4⟩
           have HC := hid (clone_ints rfl m1 m2 m3)
           have hB3 := hid ((hB1.out.ext (((Ext.refl _).alloc _).trans x3)).ext x4)
           have hT3 := hid (((Blk.new w1 28 #[.int .i64 k, .int .u64 p, .slice pa (bList p).length pc, .int .i64 r, .int .i64 c, .slice a xs.length cap, .int .i64 0, .int .i64 0, .slice none 0 0, .slice none 0 0]).ext x3).ext x4)
           have hne : w.heap.size + 1 ≠ w1.heap.size := by have := x1.size; rw [alloc_size, alloc_size] at this; omega
           have c5 := hT3.out.cell 5
           have c5f := hT3.out.frozen 5
           obtain ⟨w5, hw5⟩ : ∃ W, w4.setCell ⟨w1.heap.size, 5, none⟩ (.slice ca xs.length cc) = W := ⟨_, rfl⟩
           have hG5 := hid (show w4.grownBy w5 (some w1.heap.size) from hw5 ▸ setCell_grown w4 ⟨w1.heap.size, 5, none⟩ _)
           have hT5 := hid (show Blk w5 w1.heap.size 28 #[.int .i64 k, .int .u64 p, .slice pa (bList p).length pc, .int .i64 r, .int .i64 c, .slice ca xs.length cc, .int .i64 0, .int .i64 0, .slice none 0 0, .slice none 0 0] from hw5 ▸ hT3.out.set_ 5 _)
           have hB5 := hid (hB3.out.grown hG5.out (fun e => hne (by injection e with e; exact e.symm)))
           have hX5 : Ext w1 w5 := hw5 ▸ ((((Ext.refl w1).alloc _).trans x3).trans x4).setCell (p := ⟨w1.heap.size, 5, none⟩) (Nat.le_refl _) _
           have HM5 := hid (show 0 < xs.length → ∃ g, ca = some ⟨g, 0, none⟩ ∧ g ≠ w.heap.size + 1 ∧ WRow w5 g 0 xs from fun hp => by
             obtain ⟨g, e, h1, h2⟩ := m3 hp
             have := x3.size
             have h3 := x1.size
             rw [alloc_size] at this
             rw [alloc_size, alloc_size] at h3
             exact ⟨g, e, by omega, hw5 ▸ h2.set_other (by omega)⟩)
           clear m3
           obtain ⟨e0, e1, e2, e3, e4, e5, e6, e7, e8, e9⟩ := hT5.out.at10
           obtain ⟨b0, b1, b2, b3, b4, b5, b6, b7, b8, b9⟩ := hB5.out.at10
           have f0 := hB5.out.frozen 0; have f1 := hB5.out.frozen 1; have f2 := hB5.out.frozen 2; have f3 := hB5.out.frozen 3; have f4 := hB5.out.frozen 4; have f5 := hB5.out.frozen 5; have f6 := hB5.out.frozen 6; have f7 := hB5.out.frozen 7; have f8 := hB5.out.frozen 8; have f9 := hB5.out.frozen 9))
      have hE0 : Ext w w5 := (show Ext w w1 from (by repeat (first | exact Ext.refl _ | assumption | refine Ext.drew ?_ | refine Ext.drewN ?_ _ | refine Ext.alloc ?_ _ | refine Ext.trans ?_ (by assumption)))).trans hX5
      have hE : Ext w (Proofs.YthomeenmcajmdaaGreatDoor.put10 w5 (w.heap.size + 1) (.int .i64 k) (.int .u64 p) (.slice pa (bList p).length pc) (.int .i64 r) (.int .i64 c) (.slice ca xs.length cc) (.int .i64 0) (.int .i64 0) (.slice none 0 0) (.slice none 0 0)) := Ext.put10 hE0 (by omega) _ _ _ _ _ _ _ _ _ _
      refine bodyPost_ret (results_task rfl _ _ (w.heap.size + 1) 28 _ (0, 0) _ rfl (hB5.out.put10 _ _ _ _ _ _ _ _ _ _) Tryz.underlying28 rfl (by kernel_rfl)) rfl ?_
      refine ⟨_, _, rfl, ⟨(HP.out.ext hX5).kept hB5.out (put10_grown _ _ _ _ _ _ _ _ _ _ _ _), ?_, Ints.nil, Ints.nil⟩, HZ.out HBF.out, hE⟩
      refine clone_ints (B := 0) rfl m1 m2 fun hp => ?_
      obtain ⟨g, e, h1, h2⟩ := HM5.out hp
      exact ⟨g, e, Nat.zero_le _, h2.put10 h1 _ _ _ _ _ _ _ _ _ _⟩
  · have e1 : plE k p r c xs = bErr p := by unfold plE; rw [if_neg he]
    have e2 : plD k p r c xs = Tsk.zero := by unfold plD; rw [if_neg (by rw [e1]; exact he)]
    rw [e1, e2]
    obtain ⟨E, hE⟩ : ∃ E, bErr p = E := ⟨_, rfl⟩
    rw [hE] at C1 he ⊢
    obtain ⟨a, cap, rfl, -, -, -⟩ := hv
    unfold matV
    have hA := hid (Blk.at_ (w := w.alloc (.cells #[.int .i64 r, .int .i64 c, .slice a xs.length cap] 26)) (t := 28) (cs := zeroC) (g := w.heap.size + 1) (by rw [alloc_size]))
    clear hE hx e1 e2 hT
    go_enter Tryz.func16, Tryz.ntmps16
    go_wp2_with (go_at_call 17; refine (C1.out _ (by repeat (first | exact Ext.refl _ | assumption | refine Ext.drew ?_ | refine Ext.drewN ?_ _ | refine Ext.alloc ?_ _ | refine Ext.trans ?_ (by assumption)))).mono ?_; rintro _ w1 ⟨v, ⟨rfl, x1⟩, hps, -⟩
                 have hB1 := hid (hA.out.ext x1)
                 obtain ⟨b0, b1, b2, b3, b4, b5, b6, b7, b8, b9⟩ := hB1.out.at10
                 have f0 := hB1.out.frozen 0; have f1 := hB1.out.frozen 1; have f2 := hB1.out.frozen 2; have f3 := hB1.out.frozen 3; have f4 := hB1.out.frozen 4; have f5 := hB1.out.frozen 5; have f6 := hB1.out.frozen 6; have f7 := hB1.out.frozen 7; have f8 := hB1.out.frozen 8; have f9 := hB1.out.frozen 9)
    have hE : Ext w (Proofs.YthomeenmcajmdaaGreatDoor.put10 w1 (w.heap.size + 1) (.int .i64 0) (.int .u64 0) (.slice none 0 0) (.int .i64 0) (.int .i64 0) (.slice none 0 0) (.int .i64 0) (.int .i64 0) (.slice none 0 0) (.slice none 0 0)) := Ext.put10 (by repeat (first | exact Ext.refl _ | assumption | refine Ext.drew ?_ | refine Ext.drewN ?_ _ | refine Ext.alloc ?_ _ | refine Ext.trans ?_ (by assumption))) (by omega) _ _ _ _ _ _ _ _ _ _
    refine bodyPost_ret (results_task rfl _ _ (w.heap.size + 1) 28 _ (0, 0) _ rfl (hB1.out.put10 _ _ _ _ _ _ _ _ _ _) Tryz.underlying28 rfl (by kernel_rfl)) rfl ?_
    exact ⟨_, _, rfl, TkR.zero _, TkZ.zero, hE⟩
end Go.Proofs.YthomeenmcajmdaaGreatDoor
namespace Go.Proofs.YthomeenmcajmdaaGreatDoor
theorem nodup_sub {l r : List Int} (hl : l.Nodup) (hs : ∀ x ∈ l, x ∈ r) (hn : r.length ≤ l.length) : l.Perm r := by
  induction l generalizing r with
  | nil => cases r with
    | nil => exact List.Perm.refl _
    | cons a r => simp at hn
  | cons a l ih =>
    have ha := hs a (List.mem_cons_self ..)
    have hp := List.perm_cons_erase ha
    have hlen := hp.length_eq
    simp only [List.length_cons] at hlen hn
    obtain ⟨h1, h2⟩ := List.nodup_cons.1 hl
    refine (List.Perm.cons a (ih h2 (fun x hx => ?_) (by omega))).trans hp.symm
    exact (List.mem_erase_of_ne (fun e => h1 (by subst e; exact hx))).2 (hs x (List.mem_cons_of_mem _ hx))
theorem nodup_len {l r : List Int} (hl : l.Nodup) (hs : ∀ x ∈ l, x ∈ r) : l.length ≤ r.length := by
  induction l generalizing r with
  | nil => simp
  | cons a l ih =>
    have ha := hs a (List.mem_cons_self ..)
    have hlen := (List.perm_cons_erase ha).length_eq
    simp only [List.length_cons] at hlen ⊢
    obtain ⟨h1, h2⟩ := List.nodup_cons.1 hl
    have := ih h2 (r := r.erase a) fun x hx => (List.mem_erase_of_ne (fun e => h1 (by subst e; exact hx))).2 (hs x (List.mem_cons_of_mem _ hx))
    omega
def upL (n : Nat) : List Int := tab n fun k => (k : Int)
theorem upL_len (n : Nat) : (upL n).length = n := tab_len _ _
theorem upL_mem {n : Nat} {x : Int} : x ∈ upL n ↔ 0 ≤ x ∧ x < n := by
  simp only [upL, tab, List.mem_map, List.mem_range]
  exact ⟨fun ⟨k, h1, h2⟩ => by omega, fun ⟨h1, h2⟩ => ⟨x.toNat, by omega, by omega⟩⟩
theorem upL_nodup (n : Nat) : (upL n).Nodup := by
  unfold upL tab List.Nodup
  rw [List.pairwise_map]
  exact List.nodup_range.imp fun h => by omega
theorem upL_get {n k : Nat} (h : k < n) : (upL n).getD k 0 = k := tab_get _ h
structure Ord (n : Nat) (p : List Int) : Prop where
  len : p.length = n
  has : ∀ k : Nat, k < n → (k : Int) ∈ p
theorem Ord.perm {n : Nat} {p : List Int} (h : Ord n p) : (upL n).Perm p :=
  nodup_sub (upL_nodup n) (fun x hx => by
    obtain ⟨h1, h2⟩ := upL_mem.1 hx
    have := h.has x.toNat (by omega)
    rwa [Int.toNat_of_nonneg h1] at this) (by rw [h.len, upL_len]; omega)
theorem Ord.of_perm {n : Nat} {p : List Int} (h : (upL n).Perm p) : Ord n p :=
  ⟨by rw [← h.length_eq, upL_len], fun k hk => h.mem_iff.1 (upL_mem.2 (by omega))⟩
theorem Ord.nodup {n : Nat} {p : List Int} (h : Ord n p) : p.Nodup := h.perm.nodup_iff.1 (upL_nodup n)
theorem Ord.mem {n : Nat} {p : List Int} (h : Ord n p) {x : Int} (hx : x ∈ p) : 0 ≤ x ∧ x < n := upL_mem.1 (h.perm.mem_iff.2 hx)
theorem get_mem0 {p : List Int} {k : Nat} (h : k < p.length) : p.getD k 0 ∈ p := by
  rw [List.getD, List.getElem?_eq_getElem h]; exact List.getElem_mem h
theorem Ord.get {n : Nat} {p : List Int} (h : Ord n p) {k : Nat} (hk : k < n) : 0 ≤ p.getD k 0 ∧ p.getD k 0 < n := h.mem (get_mem0 (by rw [h.len]; exact hk))
theorem Ord.inj {n : Nat} {p : List Int} (h : Ord n p) {i k : Nat} (hi : i < n) (hk : k < n) (e : p.getD i 0 = p.getD k 0) : i = k := by
  have hn := h.nodup
  have li : i < p.length := by rw [h.len]; exact hi
  have lk : k < p.length := by rw [h.len]; exact hk
  rw [List.getD, List.getD, List.getElem?_eq_getElem li, List.getElem?_eq_getElem lk] at e
  have hp := List.pairwise_iff_getElem.1 hn
  rcases Nat.lt_trichotomy i k with c | c | c
  · exact absurd e (hp i k li lk c)
  · exact c
  · exact absurd e.symm (hp k i lk li c)
theorem Ord.find {n : Nat} {p : List Int} (h : Ord n p) {k : Nat} (hk : k < n) : ∃ i, i < n ∧ p.getD i 0 = k := by
  obtain ⟨i, hi, e⟩ := List.getElem_of_mem (h.has k hk)
  exact ⟨i, by rw [← h.len]; exact hi, by rw [List.getD, List.getElem?_eq_getElem hi]; exact e⟩
theorem Ord.up (n : Nat) : Ord n (upL n) := ⟨upL_len n, fun k hk => upL_mem.2 (by omega)⟩
def cntL (a : Int) (l : List Int) : Nat := l.countP fun x => decide (x < a)
def invL : List Int → Nat
  | [] => 0
  | a :: l => cntL a l + invL l
theorem cntL_cons (a x : Int) (l : List Int) : cntL a (x :: l) = cntL a l + if x < a then 1 else 0 := by
  unfold cntL; rw [List.countP_cons]; simp
theorem cntL_perm (a : Int) {l r : List Int} (h : l.Perm r) : cntL a l = cntL a r := h.countP_eq _
theorem cntL_append (a : Int) (l r : List Int) : cntL a (l ++ r) = cntL a l + cntL a r := List.countP_append
theorem inv_sorted {l : List Int} (h : l.Pairwise fun a b => a ≤ b) : invL l = 0 := by
  induction l with
  | nil => rfl
  | cons a l ih =>
    obtain ⟨h1, h2⟩ := List.pairwise_cons.1 h
    have : cntL a l = 0 := by
      unfold cntL
      rw [List.countP_eq_zero]
      intro b hb
      have := h1 b hb
      simp; omega
    rw [invL, ih h2, this]
theorem inv_up (n : Nat) : invL (upL n) = 0 := inv_sorted (by
  unfold upL tab
  rw [List.pairwise_map]
  exact (List.pairwise_lt_range).imp fun h => by omega)
def sgnL (l : List Int) : Int := if invL l % 2 = 0 then 1 else -1
theorem sgn_or (l : List Int) : sgnL l = 1 ∨ sgnL l = -1 := by unfold sgnL; split <;> simp
theorem inv_snoc (l : List Int) (a : Int) : invL (l ++ [a]) = invL l + l.countP fun x => decide (a < x) := by
  induction l with
  | nil => rfl
  | cons x l ih =>
    simp only [List.cons_append, invL, ih, cntL_append, List.countP_cons]
    have : cntL x [a] = if a < x then 1 else 0 := by rw [cntL_cons]; simp [cntL]
    rw [this]
    simp only [decide_eq_true_eq]
    omega
def thenL (p q : List Int) : List Int := q.map fun k => p.getD k.toNat 0
theorem thenL_get {n : Nat} {p q : List Int} (hq : q.length = n) {k : Nat} (hk : k < n) : (thenL p q).getD k 0 = p.getD (q.getD k 0).toNat 0 := by
  simp [thenL, List.getD, List.getElem?_map, List.getElem?_eq_getElem (show k < q.length by omega)]
theorem thenL_len (p q : List Int) : (thenL p q).length = q.length := by simp [thenL]
theorem thenL_up {n : Nat} {p : List Int} (hp : p.length = n) : thenL p (upL n) = p :=
  list_ext (by rw [thenL_len, upL_len, hp]) fun k hk => by
    rw [thenL_len, upL_len] at hk
    rw [thenL_get (upL_len n) hk, upL_get hk, Int.toNat_natCast]
theorem Ord.then {n : Nat} {p q : List Int} (hp : Ord n p) (hq : Ord n q) : Ord n (thenL p q) := Ord.of_perm (by
  have h := hq.perm.map fun k => p.getD k.toNat 0
  have e : (upL n).map (fun k => p.getD k.toNat 0) = p := thenL_up hp.len
  rw [e] at h
  exact hp.perm.trans h)
def atL (p : List Int) (x : Int) : Nat := (p.findIdx? (fun y => y == x)).getD 0
theorem Ord.at_ {n : Nat} {p : List Int} (h : Ord n p) {i : Nat} (hi : i < n) : atL p (p.getD i 0) = i := by
  unfold atL
  have li : i < p.length := by rw [h.len]; exact hi
  have : p.findIdx? (fun y => y == p.getD i 0) = some i := by
    rw [List.findIdx?_eq_some_iff_getElem]
    refine ⟨li, by simp [List.getD, li], fun j hj => ?_⟩
    have lj : j < n := by omega
    simp only [Bool.not_eq_true, beq_eq_false_iff_ne]
    intro e
    have e' : p.getD j 0 = p.getD i 0 := by rw [← e, List.getD, List.getElem?_eq_getElem (show j < p.length by omega)]; rfl
    have := h.inj lj hi e'
    omega
  rw [this]; rfl
theorem Ord.at_lt {n : Nat} {p : List Int} (h : Ord n p) {k : Nat} (hk : k < n) : atL p k < n ∧ p.getD (atL p k) 0 = k := by
  obtain ⟨i, hi, e⟩ := h.find hk
  rw [← e, h.at_ hi]
  exact ⟨hi, rfl⟩
end Go.Proofs.YthomeenmcajmdaaGreatDoor
namespace Go.Proofs.YthomeenmcajmdaaGreatDoor
abbrev RowF := Nat → Int
def skp (k j : Nat) : Nat := if j < k then j else j + 1
def sg (k : Nat) : Int := if k % 2 = 0 then 1 else -1
theorem sg_add (a b : Nat) : sg (a + b) = sg a * sg b := by
  unfold sg
  rcases Nat.mod_two_eq_zero_or_one a with h1 | h1 <;> rcases Nat.mod_two_eq_zero_or_one b with h2 | h2 <;>
    rw [show (a + b) % 2 = (a % 2 + b % 2) % 2 by omega] <;> simp [h1, h2]
theorem sg_succ (a : Nat) : sg (a + 1) = - sg a := by rw [sg_add]; unfold sg; simp
theorem sg_sq (a : Nat) : sg a * sg a = 1 := by unfold sg; split <;> rfl
theorem sgnL_sg (l : List Int) : sgnL l = sg (invL l) := rfl
def detN : Nat → List RowF → Int
  | 0, _ => 1
  | _ + 1, [] => 0
  | n + 1, r :: rs => sm (n + 1) fun k => sg k * r k * detN n (rs.map fun x j => x (skp k j))
structure Alt (n : Nat) (f : List RowF → Int) : Prop where
  ext : ∀ (pre : List RowF) (x y : RowF) (post : List RowF), (pre ++ x :: post).length = n → (∀ j, j < n → x j = y j) → f (pre ++ x :: post) = f (pre ++ y :: post)
  lin : ∀ (pre : List RowF) (x y : RowF) (post : List RowF) (a b : Int), (pre ++ x :: post).length = n → f (pre ++ (fun j => a * x j + b * y j) :: post) = a * f (pre ++ x :: post) + b * f (pre ++ y :: post)
  adj : ∀ (pre : List RowF) (x : RowF) (post : List RowF), (pre ++ x :: x :: post).length = n → f (pre ++ x :: x :: post) = 0
theorem skp_lt {k j n : Nat} (h : j < n) : skp k j < n + 1 := by unfold skp; split <;> omega
theorem detN_ext : ∀ (n : Nat) (pre : List RowF) (x y : RowF) (post : List RowF), (pre ++ x :: post).length = n → (∀ j, j < n → x j = y j) → detN n (pre ++ x :: post) = detN n (pre ++ y :: post) := by
  intro n
  induction n with
  | zero => intro pre x y post h; simp at h
  | succ n ih =>
    intro pre x y post h hxy
    cases pre with
    | nil =>
      simp only [List.nil_append, detN]
      exact sm_congr fun k hk => by rw [hxy k hk]
    | cons r pre =>
      simp only [List.cons_append, detN, List.map_append, List.map_cons]
      refine sm_congr fun k hk => ?_
      rw [ih _ _ (fun j => y (skp k j)) _ (by simp at h ⊢; omega) fun j hj => hxy _ (skp_lt hj)]
theorem detN_lin : ∀ (n : Nat) (pre : List RowF) (x y : RowF) (post : List RowF) (a b : Int), (pre ++ x :: post).length = n → detN n (pre ++ (fun j => a * x j + b * y j) :: post) = a * detN n (pre ++ x :: post) + b * detN n (pre ++ y :: post) := by
  intro n
  induction n with
  | zero => intro pre x y post a b h; simp at h
  | succ n ih =>
    intro pre x y post a b h
    cases pre with
    | nil =>
      simp only [List.nil_append, detN]
      rw [← sm_mul, ← sm_mul, ← sm_add]
      exact sm_congr fun k hk => by grind
    | cons r pre =>
      simp only [List.cons_append, detN, List.map_append, List.map_cons]
      rw [← sm_mul, ← sm_mul, ← sm_add]
      refine sm_congr fun k hk => ?_
      rw [ih _ (fun j => x (skp k j)) (fun j => y (skp k j)) _ a b (by simp at h ⊢; omega)]
      grind
theorem sm_skp (G : Nat → Int) : ∀ (n k : Nat), k < n + 1 → sm n (fun l => G (skp k l)) = sm (n + 1) fun b => if b = k then 0 else G b
  | 0, k, h => by
    obtain rfl : k = 0 := by omega
    simp [sm]
  | n + 1, k, h => by
    by_cases e : k = n + 1
    · subst e
      have h1 : sm (n + 1) (fun l => G (skp (n + 1) l)) = sm (n + 1) G := sm_congr fun l hl => by rw [skp, if_pos hl]
      have h2 : sm (n + 1 + 1) (fun b => if b = n + 1 then 0 else G b) = sm (n + 1) G + 0 := by
        show sm (n + 1) (fun b => if b = n + 1 then 0 else G b) + (if n + 1 = n + 1 then 0 else G (n + 1)) = _
        rw [if_pos rfl, sm_congr (g := G) fun b hb => by rw [if_neg (by omega)]]
      rw [h1, h2, Int.add_zero]
    · have ih := sm_skp G n k (by omega)
      show sm n (fun l => G (skp k l)) + G (skp k n) = sm (n + 1) (fun b => if b = k then 0 else G b) + (if n + 1 = k then 0 else G (n + 1))
      rw [ih, if_neg (by omega), skp, if_neg (by omega)]
theorem detN_two (n : Nat) (x : RowF) (post : List RowF) : detN (n + 2) (x :: x :: post) = 0 := by
  let D : Nat → Nat → Int := fun k l => detN n (post.map fun y j => y (skp k (skp l j)))
  let H : Nat → Nat → Int := fun k b => if b = k then 0 else sg k * x k * (sg (if b < k then b else b - 1) * x b * D k (if b < k then b else b - 1))
  have h1 : detN (n + 2) (x :: x :: post) = sm (n + 2) fun k => sm (n + 2) fun b => H k b := by
    show sm (n + 2) _ = _
    refine sm_congr fun k hk => ?_
    have h2 : detN (n + 1) ((x :: post).map fun y j => y (skp k j)) = sm (n + 1) fun l => sg l * x (skp k l) * D k l := by
      simp only [List.map_cons, detN, List.map_map]
      exact sm_congr fun l hl => rfl
    rw [h2, ← sm_mul]
    have h3 := sm_skp (fun b => sg k * x k * (sg (if b < k then b else b - 1) * x b * D k (if b < k then b else b - 1))) (n + 1) k hk
    rw [← h3]
    refine sm_congr fun l hl => ?_
    have e : (if skp k l < k then skp k l else skp k l - 1) = l := by unfold skp; (repeat' split) <;> omega
    simp only [e]
  have hA : ∀ k b, H k b = - H b k := by
    have main : ∀ k b, b < k → H k b = - H b k := by
      intro k b hb
      have hD : D k b = D b (k - 1) := by
        show detN n _ = detN n _
        congr 2
        funext y j
        congr 1
        unfold skp
        (repeat' split) <;> omega
      have hs : sg (k - 1) = - sg k := by
        have := sg_succ (k - 1)
        rw [show k - 1 + 1 = k by omega] at this
        omega
      have e1 : b ≠ k := by omega
      have e2 : k ≠ b := by omega
      have e3 : ¬ k < b := by omega
      simp only [H, if_neg e1, if_neg e2, if_pos hb, if_neg e3, hD, hs]
      grind
    intro k b
    rcases Nat.lt_trichotomy b k with h | h | h
    · exact main k b h
    · subst h; simp [H]
    · have := main b k h; omega
  have h4 : sm (n + 2) (fun k => sm (n + 2) fun b => H k b) = - sm (n + 2) fun k => sm (n + 2) fun b => H k b := by
    conv => lhs; rw [sm_comm]
    rw [← sm_neg]
    refine sm_congr fun k _ => ?_
    rw [← sm_neg]
    exact sm_congr fun b _ => hA b k
  rw [h1]
  omega
theorem detN_adj : ∀ (n : Nat) (pre : List RowF) (x : RowF) (post : List RowF), (pre ++ x :: x :: post).length = n → detN n (pre ++ x :: x :: post) = 0 := by
  intro n
  induction n with
  | zero => intro pre x post h; simp at h
  | succ n ih =>
    intro pre x post h
    cases pre with
    | nil =>
      cases n with
      | zero => simp at h
      | succ n => exact detN_two n x post
    | cons r pre =>
      simp only [List.cons_append, detN, List.map_append, List.map_cons]
      exact sm_zero fun k hk => by rw [ih _ _ _ (by simp at h ⊢; omega), Int.mul_zero]
theorem detN_alt (n : Nat) : Alt n (detN n) := ⟨detN_ext n, detN_lin n, detN_adj n⟩
variable {n : Nat} {f : List RowF → Int}
theorem Alt.swap (h : Alt n f) (pre : List RowF) (x y : RowF) (post : List RowF) (hl : (pre ++ x :: y :: post).length = n) : f (pre ++ x :: y :: post) = - f (pre ++ y :: x :: post) := by
  have hl' : (pre ++ x :: y :: post).length = (pre ++ y :: x :: post).length := by simp
  let s : RowF := fun j => 1 * x j + 1 * y j
  have h0 := h.adj pre s post (by simpa using hl)
  have h1 := h.lin pre x y (s :: post) 1 1 (by simpa using hl)
  have h2 := h.lin (pre ++ [x]) x y post 1 1 (by simpa using hl)
  have h3 := h.lin (pre ++ [y]) x y post 1 1 (by simpa using hl)
  have h4 := h.adj pre x post (by simpa using hl)
  have h5 := h.adj pre y post (by simpa using hl)
  simp only [List.append_assoc, List.cons_append, List.nil_append] at h2 h3
  have h1' : f (pre ++ s :: s :: post) = 1 * f (pre ++ x :: s :: post) + 1 * f (pre ++ y :: s :: post) := h1
  have h2' : f (pre ++ x :: s :: post) = 1 * f (pre ++ x :: x :: post) + 1 * f (pre ++ x :: y :: post) := h2
  have h3' : f (pre ++ y :: s :: post) = 1 * f (pre ++ y :: x :: post) + 1 * f (pre ++ y :: y :: post) := h3
  omega
theorem Alt.alike (h : Alt n f) (x : RowF) (post : List RowF) : ∀ (mid pre : List RowF), (pre ++ x :: (mid ++ x :: post)).length = n → f (pre ++ x :: (mid ++ x :: post)) = 0
  | [], pre, hl => h.adj pre x post hl
  | z :: mid, pre, hl => by
    rw [List.cons_append, h.swap pre x z (mid ++ x :: post) (by simpa using hl)]
    have := Alt.alike h x post mid (pre ++ [z]) (by simp at hl ⊢; omega)
    simp only [List.append_assoc, List.cons_append, List.nil_append] at this
    rw [this]; rfl
theorem Alt.perm (h : Alt n f) (g : Int → RowF) {l r : List Int} (hp : l.Perm r) : ∀ pre : List RowF, (pre ++ l.map g).length = n → sg (invL l) * f (pre ++ l.map g) = sg (invL r) * f (pre ++ r.map g) := by
  induction hp with
  | nil => intro pre _; rfl
  | cons x hp ih =>
    rename_i l1 l2
    intro pre hl
    have := ih (pre ++ [g x]) (by simp at hl ⊢; omega)
    simp only [List.append_assoc, List.cons_append, List.nil_append] at this
    simp only [List.map_cons, invL, sg_add, cntL_perm x hp]
    rw [Int.mul_assoc, Int.mul_assoc, this]
  | swap x y l =>
    intro pre hl
    simp only [List.map_cons] at hl ⊢
    have hs := h.swap pre (g y) (g x) (l.map g) hl
    by_cases e : x = y
    · subst e; rfl
    · have hi : sg (invL (y :: x :: l)) = - sg (invL (x :: y :: l)) := by
        simp only [invL, cntL_cons]
        rcases Int.lt_or_gt_of_ne e with k | k
        · rw [if_pos k, if_neg (by omega), ← sg_succ]; congr 1; omega
        · rw [if_neg (by omega), if_pos k]
          have := sg_succ (cntL y l + 0 + (cntL x l + invL l))
          rw [show cntL x l + 1 + (cntL y l + invL l) = cntL y l + 0 + (cntL x l + invL l) + 1 by omega, this]
          omega
      rw [hs, hi]
      grind
  | trans h1 h2 ih1 ih2 =>
    rename_i l1 l2 l3
    intro pre hl
    rw [ih1 pre hl, ih2 pre (by simp at hl ⊢; rw [← h1.length_eq]; exact hl)]
theorem Alt.sum (h : Alt n f) (pre : List RowF) (x : RowF) (post : List RowF) (hl : (pre ++ x :: post).length = n) (c : Nat → Int) (y : Nat → RowF) : ∀ m : Nat,
    f (pre ++ (fun j => x j + sm m fun k => c k * y k j) :: post) = f (pre ++ x :: post) + sm m fun k => c k * f (pre ++ y k :: post)
  | 0 => by
    simp only [sm, Int.add_zero]
  | m + 1 => by
    have ih := Alt.sum h pre x post hl c y m
    have h1 := h.lin pre (fun j => x j + sm m fun k => c k * y k j) (y m) post 1 (c m) (by simpa using hl)
    have e : (fun j => x j + sm (m + 1) fun k => c k * y k j) = fun j => 1 * (x j + sm m fun k => c k * y k j) + c m * y m j := by
      funext j
      show x j + (sm m (fun k => c k * y k j) + c m * y m j) = _
      grind
    rw [e, h1, ih]
    show _ = f (pre ++ x :: post) + (sm m (fun k => c k * f (pre ++ y k :: post)) + c m * f (pre ++ y m :: post))
    grind
theorem Alt.scale (h : Alt n f) (pre : List RowF) (x : RowF) (post : List RowF) (a : Int) (hl : (pre ++ x :: post).length = n) : f (pre ++ (fun j => a * x j) :: post) = a * f (pre ++ x :: post) := by
  have := h.lin pre x x post a 0 hl
  rw [show (fun j => a * x j + 0 * x j) = fun j => a * x j by funext j; grind] at this
  rw [this]; grind
theorem Alt.mod (h : Alt n f) {p : Int} (pre : List RowF) (x y : RowF) (post : List RowF) (hl : (pre ++ x :: post).length = n) (hxy : ∀ j, j < n → x j % p = y j % p) : f (pre ++ x :: post) % p = f (pre ++ y :: post) % p := by
  have hl' : (pre ++ y :: post).length = n := by simpa using hl
  have e := h.ext pre x (fun j => 1 * y j + p * ((x j - y j) / p)) post hl fun j hj => by
    have h1 := hxy j hj
    have h2 : (x j - y j) % p = 0 := by rw [Int.sub_emod, h1]; simp
    have h3 := Int.mul_ediv_add_emod (x j - y j) p
    rw [h2] at h3
    omega
  rw [e, h.lin pre y (fun j => (x j - y j) / p) post 1 p hl']
  rw [Int.one_mul, Int.add_mul_emod_self_left]
end Go.Proofs.YthomeenmcajmdaaGreatDoor
namespace Go.Proofs.YthomeenmcajmdaaGreatDoor
variable {n : Nat} {f : List RowF → Int}
def rwF (l : List RowF) (k : Nat) : RowF := l.getD k fun _ => 0
theorem rwF_mem {l : List RowF} {k : Nat} (h : k < l.length) : rwF l k ∈ l := by
  rw [rwF, List.getD, List.getElem?_eq_getElem h]; exact List.getElem_mem h
theorem rwF_take {l : List RowF} {k : Nat} (h : k < l.length) : l.take (k + 1) = l.take k ++ [rwF l k] := by
  rw [List.take_succ_eq_append_getElem h]; simp [rwF, List.getD, h]
theorem rwF_drop {l : List RowF} {k : Nat} (h : k < l.length) : l.drop k = rwF l k :: l.drop (k + 1) := by
  rw [List.drop_eq_getElem_cons h]; simp [rwF, List.getD, h]
theorem Alt.memL (h : Alt n f) {pre post : List RowF} {x : RowF} (hx : x ∈ pre) (hl : (pre ++ x :: post).length = n) : f (pre ++ x :: post) = 0 := by
  obtain ⟨s, t, rfl⟩ := List.append_of_mem hx
  have := h.alike x post t s (by simp at hl ⊢; omega)
  rw [List.append_assoc, List.cons_append]; exact this
theorem Alt.memR (h : Alt n f) {pre post : List RowF} {x : RowF} (hx : x ∈ post) (hl : (pre ++ x :: post).length = n) : f (pre ++ x :: post) = 0 := by
  obtain ⟨s, t, rfl⟩ := List.append_of_mem hx
  exact h.alike x t s pre hl
theorem Alt.zero (h : Alt n f) {pre post : List RowF} (hl : (pre ++ (fun _ => 0) :: post).length = n) : f (pre ++ (fun _ => 0) :: post) = 0 := by
  have := h.scale pre (fun _ => 0) post 0 hl
  rw [show (fun _ : Nat => (0 : Int) * 0) = fun _ => 0 by funext j; simp] at this
  rw [this, Int.zero_mul]
theorem Alt.tri (h : Alt n f) {p : Int} {ms us : List RowF} (lm : ms.length = n) (lu : us.length = n) (c : Nat → Nat → Int)
    (H : ∀ i, i < n → ∀ j, j < n → rwF ms i j % p = (rwF us i j + sm i fun k => c i k * rwF us k j) % p) : f ms % p = f us % p := by
  have main : ∀ i, i ≤ n → f ms % p = f (us.take i ++ ms.drop i) % p := by
    intro i
    induction i with
    | zero => intro _; simp
    | succ i ih =>
      intro hi
      rw [ih (by omega), rwF_drop (by omega), rwF_take (by omega), List.append_assoc, List.cons_append, List.nil_append]
      have hl : (us.take i ++ rwF ms i :: ms.drop (i + 1)).length = n := by simp; omega
      have hl' : ∀ x : RowF, (us.take i ++ x :: ms.drop (i + 1)).length = n := fun x => by simp; omega
      rw [h.mod _ _ (fun j => rwF us i j + sm i fun k => c i k * rwF us k j) _ hl (H i (by omega)), h.sum _ _ _ (hl' _) (c i) (fun k => rwF us k) i]
      rw [sm_zero fun k hk => ?_, Int.add_zero]
      have hm : rwF us k ∈ us.take i := by
        have h1 : rwF us k = rwF (us.take i) k := by simp [rwF, List.getD, hk]
        rw [h1]; exact rwF_mem (by simp; omega)
      rw [h.memL hm (hl' _), Int.mul_zero]
  have := main n (Nat.le_refl _)
  rwa [List.drop_of_length_le (by omega), List.take_of_length_le (by omega), List.append_nil] at this
def eR (a : Nat) : RowF := fun j => if j = a then 1 else 0
def prN : Nat → (Nat → Int) → Int
  | 0, _ => 1
  | n + 1, d => prN n d * d n
theorem Alt.own (h : Alt n f) {us : List RowF} (lu : us.length = n) (s : Nat → Nat) (hi : ∀ i k, i < n → k < n → s i = s k → i = k) (hb : ∀ j, j < n → ∃ k, k < n ∧ s k = j)
    (hz : ∀ i k, k < i → i < n → rwF us i (s k) = 0) : f us = prN n (fun i => rwF us i (s i)) * f ((List.range n).map fun i => eR (s i)) := by
  obtain ⟨es, hes⟩ : ∃ es, ((List.range n).map fun i => eR (s i)) = es := ⟨_, rfl⟩
  have le : es.length = n := by rw [← hes]; simp
  have ge : ∀ k, k < n → rwF es k = eR (s k) := fun k hk => by rw [← hes]; simp [rwF, List.getD, hk]
  rw [hes]
  have main : ∀ i, i ≤ n → f (us.take i ++ es.drop i) = prN i (fun i => rwF us i (s i)) * f es := by
    intro i
    induction i with
    | zero => intro _; simp [prN]
    | succ i ih =>
      intro hin
      have hl' : ∀ x : RowF, (us.take i ++ x :: es.drop (i + 1)).length = n := fun x => by simp; omega
      rw [rwF_take (by omega), List.append_assoc, List.cons_append, List.nil_append]
      have e1 := h.ext (us.take i) (rwF us i) (fun j => 0 + sm n fun k => rwF us i (s k) * eR (s k) j) (es.drop (i + 1)) (hl' _) fun j hj => by
        obtain ⟨k, hk, rfl⟩ := hb j hj
        rw [Int.zero_add, sm_congr (g := fun k' => if k' = k then rwF us i (s k') else 0) fun k' hk' => by
          unfold eR
          by_cases e : k' = k
          · subst e; simp
          · rw [if_neg e, if_neg fun e2 => e (hi k' k hk' hk e2.symm), Int.mul_zero], sm_single _ hk]
      rw [e1, h.sum (us.take i) (fun _ => 0) (es.drop (i + 1)) (hl' _) (fun k => rwF us i (s k)) (fun k => eR (s k)) n, h.zero (hl' _), Int.zero_add]
      rw [sm_congr (g := fun k => if k = i then rwF us i (s i) * f (us.take i ++ es.drop i) else 0) fun k hk => ?_, sm_single _ (by omega), ih (by omega)]
      · show _ = prN i _ * rwF us i (s i) * f es
        grind
      · rcases Nat.lt_trichotomy k i with c | c | c
        · rw [if_neg (by omega), hz i k c (by omega), Int.zero_mul]
        · subst c
          have e := rwF_drop (l := es) (k := k) (by omega)
          rw [if_pos rfl, e, ge k hk]
        · rw [if_neg (by omega)]
          have hm : eR (s k) ∈ es.drop (i + 1) := by
            have h1 : eR (s k) = rwF (es.drop (i + 1)) (k - (i + 1)) := by
              rw [← ge k hk]; simp [rwF, List.getD, show i + 1 + (k - (i + 1)) = k by omega]
            rw [h1]; exact rwF_mem (by simp; omega)
          rw [h.memR hm (hl' _), Int.mul_zero]
  have := main n (Nat.le_refl _)
  rwa [List.drop_of_length_le (by omega), List.take_of_length_le (by omega), List.append_nil] at this
def idF (n : Nat) : List RowF := (List.range n).map eR
theorem Alt.order (h : Alt n f) {S : List Int} (hS : Ord n S) : f ((List.range n).map fun i => eR (S.getD i 0).toNat) = sgnL S * f (idF n) := by
  have h1 := h.perm (fun x => eR x.toNat) hS.perm [] (by simp [upL_len])
  have e1 : (upL n).map (fun x => eR x.toNat) = idF n := by
    unfold upL tab idF
    rw [List.map_map]
    rfl
  have e2 : S.map (fun x => eR x.toNat) = (List.range n).map fun i => eR (S.getD i 0).toNat := by
    have := tab_of hS.len (f := fun i => S.getD i 0) fun _ _ => rfl
    conv => lhs; rw [this, tab, List.map_map]
    rfl
  rw [List.nil_append, List.nil_append, e1, e2, inv_up] at h1
  rw [sgnL_sg]
  have h2 := sg_sq (invL S)
  have h3 : sg 0 = 1 := rfl
  rw [h3, Int.one_mul] at h1
  grind
theorem det_id : ∀ n, detN n (idF n) = 1
  | 0 => rfl
  | n + 1 => by
    have e : idF (n + 1) = eR 0 :: (List.range n).map fun i => eR (i + 1) := by
      unfold idF
      rw [List.range_succ_eq_map]
      simp [Function.comp_def]
    rw [e]
    show sm (n + 1) _ = 1
    rw [sm_congr (g := fun k => if k = 0 then detN n (idF n) else 0) fun k hk => ?_, sm_single _ (by omega), det_id n]
    by_cases h : k = 0
    · subst h
      rw [if_pos rfl]
      have : ((List.range n).map fun i => eR (i + 1)).map (fun x j => x (skp 0 j)) = idF n := by
        unfold idF
        rw [List.map_map]
        refine List.map_congr_left fun i _ => ?_
        funext j
        simp [Function.comp, eR, skp]
      rw [this]
      simp [sg, eR]
    · rw [if_neg h]
      simp [eR, h]
def detF (n : Nat) (A : Nat → Nat → Int) : Int := detN n ((List.range n).map A)
theorem detF_succ (n : Nat) (A : Nat → Nat → Int) : detF (n + 1) A = sm (n + 1) fun k => sg k * A 0 k * detF n fun i j => A (i + 1) (skp k j) := by
  unfold detF
  rw [List.range_succ_eq_map]
  simp only [List.map_cons, List.map_map, detN]
  rfl
theorem detF_congr : ∀ (n : Nat) {A B : Nat → Nat → Int}, (∀ i j, i < n → j < n → A i j = B i j) → detF n A = detF n B
  | 0, _, _, _ => rfl
  | n + 1, A, B, h => by
    rw [detF_succ, detF_succ]
    exact sm_congr fun k hk => by rw [h 0 k (by omega) hk, detF_congr n fun i j hi hj => h _ _ (by omega) (skp_lt hj)]
end Go.Proofs.YthomeenmcajmdaaGreatDoor
namespace Go.Proofs.YthomeenmcajmdaaGreatDoor
variable {p : Int}
def HasInv (p : Int) : Prop := 2 ≤ p ∧ ∀ a : Int, a % p ≠ 0 → ∃ b, a * b % p = 1
theorem HasInv.one (h : HasInv p) : (1 : Int) % p = 1 := Int.emod_eq_of_lt (by omega) (by have := h.1; omega)
theorem mz_mul {a : Int} (h : a % p = 0) (b : Int) : b * a % p = 0 := by rw [Int.mul_emod, h]; simp
theorem mz_mul' {a : Int} (h : a % p = 0) (b : Int) : a * b % p = 0 := by rw [Int.mul_comm]; exact mz_mul h b
theorem mz_add {a b : Int} (h : a % p = 0) (k : b % p = 0) : (a + b) % p = 0 := by rw [Int.add_emod, h, k]; simp
theorem mz_neg {a : Int} (h : a % p = 0) : -a % p = 0 := by
  have := mz_mul h (-1)
  rwa [show -1 * a = -a by omega] at this
theorem sm_mz {f : Nat → Int} {n : Nat} (h : ∀ k, k < n → f k % p = 0) : sm n f % p = 0 := by
  rw [sm_mod (g := fun _ => 0) fun k hk => by rw [h k hk]; simp, sm_zero fun _ _ => rfl]; simp
theorem mz_sub {a b : Int} : a % p = b % p ↔ (a - b) % p = 0 := by
  constructor
  · intro h; rw [Int.sub_emod, h]; simp
  · intro h
    have h3 := Int.mul_ediv_add_emod (a - b) p
    rw [h] at h3
    rw [show a = b + p * ((a - b) / p) by omega, Int.add_mul_emod_self_left]
theorem mz_cancel (hp : HasInv p) {a b : Int} (ha : a % p ≠ 0) (h : b * a % p = 0) : b % p = 0 := by
  obtain ⟨c, hc⟩ := hp.2 a ha
  have h1 : b * a * c % p = 0 := mz_mul' h c
  have h2 : (b * (a * c) - b) % p = 0 := by
    have h3 : (a * c - 1) % p = 0 := mz_sub.1 (by rw [hc, hp.one])
    rw [show b * (a * c) - b = b * (a * c - 1) by grind]
    exact mz_mul h3 b
  rw [show b * a * c = b * (a * c) by grind] at h1
  rw [← mz_sub.2 h2, h1]
theorem sm_out (G : Nat → Int) {n k : Nat} (h : k < n + 1) : sm (n + 1) G = sm n (fun l => G (skp k l)) + G k := by
  rw [sm_skp G n k h, ← sm_single (n := n + 1) (i := k) G h, ← sm_add]
  refine sm_congr fun b _ => ?_
  by_cases e : b = k
  · rw [if_pos e, if_pos e]; simp
  · rw [if_neg e, if_neg e]; simp
theorem nontriv (hp : HasInv p) : ∀ (s r : Nat), s < r → ∀ a : Nat → Nat → Int, ∃ x : Nat → Int, (∃ k, k < r ∧ x k % p ≠ 0) ∧ ∀ l, l < s → (sm r fun k => x k * a k l) % p = 0
  | 0, r, h, a => ⟨fun _ => 1, ⟨0, h, by show (1 : Int) % p ≠ 0; rw [hp.one]; omega⟩, fun l hl => absurd hl (Nat.not_lt_zero _)⟩
  | s + 1, r, h, a => by
    by_cases h0 : ∀ k, k < r → a k s % p = 0
    · obtain ⟨x, hx, hl⟩ := nontriv hp s r (by omega) a
      refine ⟨x, hx, fun l hl' => ?_⟩
      by_cases e : l = s
      · subst e; exact sm_mz fun k hk => mz_mul (h0 k hk) _
      · exact hl l (by omega)
    · simp only [Classical.not_forall] at h0
      obtain ⟨k0, hk0, hne⟩ := h0
      obtain ⟨b, hb⟩ := hp.2 _ hne
      obtain ⟨r', rfl⟩ : ∃ r', r = r' + 1 := ⟨r - 1, by omega⟩
      obtain ⟨y, ⟨k1, hk1, hy1⟩, hy⟩ := nontriv hp s r' (by omega) fun k l => a (skp k0 k) l - a (skp k0 k) s * b * a k0 l
      have hback : ∀ k, (if skp k0 k < k0 then skp k0 k else skp k0 k - 1) = k := fun k => by unfold skp; (repeat' split) <;> omega
      have hne0 : ∀ k, skp k0 k ≠ k0 := fun k => by unfold skp; split <;> omega
      let S : Int := sm r' fun k => y k * a (skp k0 k) s
      let x : Nat → Int := fun j => if j = k0 then - S * b else y (if j < k0 then j else j - 1)
      have hx : ∀ l, (sm (r' + 1) fun k => x k * a k l) = (sm r' fun k => y k * (a (skp k0 k) l - a (skp k0 k) s * b * a k0 l)) := by
        intro l
        rw [sm_out (fun k => x k * a k l) hk0]
        have e1 : (sm r' fun k => x (skp k0 k) * a (skp k0 k) l) = sm r' fun k => y k * a (skp k0 k) l := sm_congr fun k _ => by
          show (if skp k0 k = k0 then _ else y (if skp k0 k < k0 then skp k0 k else skp k0 k - 1)) * _ = _
          rw [if_neg (hne0 k), hback]
        have e2 : (sm r' fun k => y k * (a (skp k0 k) l - a (skp k0 k) s * b * a k0 l)) = (sm r' fun k => y k * a (skp k0 k) l) + (sm r' fun k => y k * a (skp k0 k) s) * (- b * a k0 l) := by
          rw [← sm_mul_r, ← sm_add]
          exact sm_congr fun k _ => by grind
        have e3 : x k0 = - S * b := by show (if k0 = k0 then _ else _) = _; rw [if_pos rfl]
        rw [e1, e2, e3]
        show _ + - S * b * a k0 l = _ + S * _
        grind
      refine ⟨x, ⟨skp k0 k1, skp_lt hk1, ?_⟩, fun l hl => ?_⟩
      · show (if skp k0 k1 = k0 then _ else y (if skp k0 k1 < k0 then skp k0 k1 else skp k0 k1 - 1)) % p ≠ 0
        rw [if_neg (hne0 k1), hback]; exact hy1
      · rw [hx l]
        by_cases e : l = s
        · subst e
          refine sm_mz fun k _ => mz_mul ?_ _
          have h3 : (1 - a k0 l * b) % p = 0 := by
            rw [show (1 - a k0 l * b) = -(a k0 l * b - 1) by omega]
            have h4 : (a k0 l * b - 1) % p = 0 := mz_sub.1 (by rw [hb, hp.one])
            exact mz_neg h4
          rw [show a (skp k0 k) l - a (skp k0 k) l * b * a k0 l = a (skp k0 k) l * (1 - a k0 l * b) by grind]
          exact mz_mul h3 _
        · exact hy l (by omega)
def Comb (p : Int) (n r : Nat) (u : Nat → RowF) (v : RowF) : Prop := ∃ c : Nat → Int, ∀ j, j < n → v j % p = (sm r fun k => c k * u k j) % p
def Ind (p : Int) (n r : Nat) (u : Nat → RowF) : Prop := ∀ x : Nat → Int, (∀ j, j < n → (sm r fun k => x k * u k j) % p = 0) → ∀ k, k < r → x k % p = 0
theorem Comb.one {n r k : Nat} (u : Nat → RowF) (hk : k < r) : Comb p n r u (u k) :=
  ⟨fun i => if i = k then 1 else 0, fun j _ => by
    rw [sm_congr (g := fun i => if i = k then u i j else 0) fun i _ => by by_cases e : i = k <;> simp [e], sm_single _ hk]⟩
theorem Comb.congr {n r : Nat} {u : Nat → RowF} {v v' : RowF} (h : Comb p n r u v) (e : ∀ j, j < n → v' j % p = v j % p) : Comb p n r u v' := by
  obtain ⟨c, hc⟩ := h
  exact ⟨c, fun j hj => (e j hj).trans (hc j hj)⟩
theorem Comb.sum {n r m : Nat} {u : Nat → RowF} {w : Nat → RowF} (h : ∀ i, i < m → Comb p n r u (w i)) (d : Nat → Int) : Comb p n r u fun j => sm m fun i => d i * w i j := by
  have : ∃ c : Nat → Nat → Int, ∀ i, i < m → ∀ j, j < n → w i j % p = (sm r fun k => c i k * u k j) % p := by
    refine ⟨fun i => if h' : i < m then Classical.choose (h i h') else fun _ => 0, fun i hi j hj => ?_⟩
    simp only [dif_pos hi]
    exact Classical.choose_spec (h i hi) j hj
  obtain ⟨c, hc⟩ := this
  refine ⟨fun k => sm m fun i => d i * c i k, fun j hj => ?_⟩
  have e : (sm r fun k => (sm m fun i => d i * c i k) * u k j) = sm m fun i => d i * sm r fun k => c i k * u k j := by
    rw [sm_congr (g := fun k => sm m fun i => d i * (c i k * u k j)) fun k _ => by rw [← sm_mul_r]; exact sm_congr fun i _ => by grind, sm_comm]
    exact sm_congr fun i _ => by rw [sm_mul]
  rw [e]
  exact sm_mod fun i hi => by rw [Int.mul_emod, hc i hi j hj, ← Int.mul_emod]
theorem Comb.trans {n r s : Nat} {u w : Nat → RowF} {v : RowF} (h : Comb p n r u v) (k : ∀ i, i < r → Comb p n s w (u i)) : Comb p n s w v := by
  obtain ⟨c, hc⟩ := h
  exact (Comb.sum k c).congr hc
theorem Ind.le (hp : HasInv p) {n r s : Nat} {u w : Nat → RowF} (hu : Ind p n r u) (h : ∀ k, k < r → Comb p n s w (u k)) : r ≤ s := by
  rcases Nat.lt_or_ge s r with hlt | hge
  · exfalso
    have : ∃ c : Nat → Nat → Int, ∀ i, i < r → ∀ j, j < n → u i j % p = (sm s fun k => c i k * w k j) % p := by
      refine ⟨fun i => if h' : i < r then Classical.choose (h i h') else fun _ => 0, fun i hi j hj => ?_⟩
      simp only [dif_pos hi]
      exact Classical.choose_spec (h i hi) j hj
    obtain ⟨c, hc⟩ := this
    obtain ⟨x, ⟨k, hk, hx⟩, hl⟩ := nontriv hp s r hlt c
    refine hx (hu x (fun j hj => ?_) k hk)
    rw [sm_mod (g := fun k => x k * sm s fun l => c k l * w l j) fun k hk => by rw [Int.mul_emod, hc k hk j hj, ← Int.mul_emod]]
    have e : (sm r fun k => x k * sm s fun l => c k l * w l j) = sm s fun l => (sm r fun k => x k * c k l) * w l j := by
      rw [sm_congr (g := fun k => sm s fun l => x k * c k l * w l j) fun k _ => by rw [← sm_mul]; exact sm_congr fun l _ => by grind, sm_comm]
      exact sm_congr fun l _ => by rw [sm_mul_r]
    rw [e]
    exact sm_mz fun l hl' => mz_mul' (hl l hl') _
  · exact hge
structure Ech (p : Int) (n r : Nat) (u : Nat → RowF) (s : Nat → Nat) : Prop where
  col : ∀ i, i < r → s i < n
  piv : ∀ i, i < r → u i (s i) % p ≠ 0
  zero : ∀ i k, k < i → i < r → u i (s k) % p = 0
theorem Ech.coef (hp : HasInv p) {n r : Nat} {u : Nat → RowF} {s : Nat → Nat} (h : Ech p n r u s) {x : Nat → Int} (hx : ∀ k, k < r → (sm r fun i => x i * u i (s k)) % p = 0) : ∀ k, k < r → x k % p = 0 := by
  intro k
  induction k using Nat.strongRecOn with
  | ind k ih =>
    intro hk
    have h1 := hx k hk
    rw [sm_mod (g := fun i => if i = k then x k * u k (s k) else 0) fun i hi => ?_, sm_single (fun _ => x k * u k (s k)) hk] at h1
    · exact mz_cancel hp (h.piv k hk) h1
    · rcases Nat.lt_trichotomy i k with c | c | c
      · rw [if_neg (by omega), mz_mul' (ih i c hi)]; simp
      · subst c; rw [if_pos rfl]
      · rw [if_neg (by omega), mz_mul (h.zero i k c hi)]; simp
theorem Ech.ind (hp : HasInv p) {n r : Nat} {u : Nat → RowF} {s : Nat → Nat} (h : Ech p n r u s) : Ind p n r u :=
  fun _ hx => h.coef hp fun k hk => hx _ (h.col k hk)
theorem Ech.none (hp : HasInv p) {n r : Nat} {u : Nat → RowF} {s : Nat → Nat} (h : Ech p n r u s) {v : RowF} (hv : Comb p n r u v) (hz : ∀ k, k < r → v (s k) % p = 0) : ∀ j, j < n → v j % p = 0 := by
  obtain ⟨c, hc⟩ := hv
  have h0 := h.coef hp (x := c) fun k hk => by rw [← hc _ (h.col k hk)]; exact hz k hk
  intro j hj
  rw [hc j hj]
  exact sm_mz fun k hk => mz_mul' (h0 k hk) _
theorem Ech.inj {n r : Nat} {u : Nat → RowF} {s : Nat → Nat} (h : Ech p n r u s) {i k : Nat} (hi : i < r) (hk : k < r) (e : s i = s k) : i = k := by
  rcases Nat.lt_trichotomy i k with c | c | c
  · exact absurd (e ▸ h.zero k i c hk) (h.piv k hk)
  · exact c
  · exact absurd (e.symm ▸ h.zero i k c hi) (h.piv i hi)
structure Bas (p : Int) (n m r : Nat) (M u : Nat → RowF) : Prop where
  ind : Ind p n r u
  gen : ∀ i, i < m → Comb p n r u (M i)
  own : ∀ k, k < r → Comb p n m M (u k)
theorem Bas.le (hp : HasInv p) {n m m' r r' : Nat} {M M' u u' : Nat → RowF} (B : Bas p n m r M u) (B' : Bas p n m' r' M' u') (h : ∀ i, i < m → Comb p n m' M' (M i)) : r ≤ r' :=
  B.ind.le hp fun k hk => ((B.own k hk).trans h).trans B'.gen
def mulF (k : Nat) (A B : Nat → RowF) : Nat → RowF := fun i j => sm k fun l => A i l * B l j
end Go.Proofs.YthomeenmcajmdaaGreatDoor
namespace Go.Proofs.YthomeenmcajmdaaGreatDoor
variable {p : Int}
theorem rng_app {xs ys : List Int} (h : Rng p xs) (h' : Rng p ys) : Rng p (xs ++ ys) := fun x hx => (List.mem_append.1 hx).elim (h x) (h' x)
noncomputable def mulE (p : Int) (u : List Int) (a : Nat) (row : List Int) : Int := row.getD a 0 * minv p (u.getD a 0) % p
noncomputable def restE (p : Int) (n : Nat) (u : List Int) (a : Nat) (row : List Int) : List Int := tab n fun j => (row.getD j 0 - mulE p u a row * u.getD j 0 % p) % p
noncomputable def elimE (p : Int) (n : Nat) (U : List (List Int)) (cols : List Nat) (row : List Int) : Nat → List Int × List Int
  | 0 => ([], row)
  | k + 1 => ((elimE p n U cols row k).1 ++ [mulE p (U.getD k []) (cols.getD k 0) (elimE p n U cols row k).2], restE p n (U.getD k []) (cols.getD k 0) (elimE p n U cols row k).2)
def leadE (l : List Int) : Nat := l.findIdx fun y => y != 0
theorem leadE_le (l : List Int) : leadE l ≤ l.length := List.findIdx_le_length
theorem leadE_zero {l : List Int} {j : Nat} (h : j < leadE l) : l.getD j 0 = 0 := by
  have hj : j < l.length := Nat.lt_of_lt_of_le h (leadE_le l)
  have := List.not_of_lt_findIdx h
  simp at this
  simp [List.getD, hj, this]
theorem leadE_ne {l : List Int} (h : leadE l < l.length) : l.getD (leadE l) 0 ≠ 0 := by
  unfold leadE at h ⊢
  have := List.findIdx_getElem (w := h)
  simp at this
  simpa [List.getD, h] using this
theorem leadE_eq {l : List Int} {k : Nat} (hk : k < l.length) (h : l.getD k 0 ≠ 0) (hz : ∀ j, j < k → l.getD j 0 = 0) : leadE l = k := by
  rcases Nat.lt_trichotomy (leadE l) k with c | c | c
  · exact absurd (hz _ c) (leadE_ne (Nat.lt_trans c hk))
  · exact c
  · exact absurd (leadE_zero c) h
theorem leadE_all {l : List Int} (hz : ∀ j, j < l.length → l.getD j 0 = 0) : leadE l = l.length := by
  rcases Nat.lt_or_ge (leadE l) l.length with c | c
  · exact absurd (hz _ c) (leadE_ne c)
  · exact Nat.le_antisymm (leadE_le l) c
structure ElE where
  C : List (List Int)
  rows : List Nat
  cols : List Nat
  U : List (List Int)
def ElE.nil : ElE := ⟨[], [], [], []⟩
noncomputable def stepE (p : Int) (n : Nat) (st : ElE) (i : Nat) (row : List Int) : Option ElE :=
  let e := elimE p n st.U st.cols row st.U.length
  if leadE e.2 < n then
    if unitB p (e.2.getD (leadE e.2) 0) = true then some ⟨st.C ++ [e.1 ++ [1]], st.rows ++ [i], st.cols ++ [leadE e.2], st.U ++ [e.2]⟩ else none
  else some { st with C := st.C ++ [e.1] }
noncomputable def takeE (p : Int) (n : Nat) (R : Nat → List Int) : Nat → Option ElE
  | 0 => some .nil
  | i + 1 => (takeE p n R i).bind fun st => stepE p n st i (R i)
structure ElOk (p : Int) (n : Nat) (R : Nat → List Int) (i : Nat) (st : ElE) : Prop where
  lc : st.C.length = i
  lr : st.rows.length = st.U.length
  lk : st.cols.length = st.U.length
  row : ∀ k, k < st.U.length → (st.U.getD k []).length = n ∧ Rng p (st.U.getD k []) ∧ st.cols.getD k 0 < n ∧ unitB p ((st.U.getD k []).getD (st.cols.getD k 0) 0) = true ∧ (∀ j, j < st.cols.getD k 0 → (st.U.getD k []).getD j 0 = 0) ∧ (st.U.getD k []).getD (st.cols.getD k 0) 0 ≠ 0
  zero : ∀ k j, j < k → k < st.U.length → (st.U.getD k []).getD (st.cols.getD j 0) 0 = 0
  inc : ∀ j k, j < k → k < st.rows.length → st.rows.getD j 0 < st.rows.getD k 0
  low : ∀ k, k < st.rows.length → st.rows.getD k 0 < i
  cl : ∀ k, k < i → (st.C.getD k []).length ≤ st.U.length ∧ Rng p (st.C.getD k [])
  made : ∀ k, k < i → ∀ j, j < n → (R k).getD j 0 % p = (sm (st.C.getD k []).length fun t => (st.C.getD k []).getD t 0 * (st.U.getD t []).getD j 0) % p
  one : ∀ t, t < st.rows.length → (st.C.getD (st.rows.getD t 0) []).length = t + 1 ∧ (st.C.getD (st.rows.getD t 0) []).getD t 0 = 1
theorem elimE_ok {n r : Nat} {U : List (List Int)} {cols : List Nat} {row : List Int} (hp : 2 ≤ p) (hl : row.length = n) (hr : Rng p row) (hU : U.length = r)
    (h1 : ∀ k, k < r → (U.getD k []).length = n ∧ Rng p (U.getD k []) ∧ cols.getD k 0 < n ∧ unitB p ((U.getD k []).getD (cols.getD k 0) 0) = true) (h2 : ∀ k j, j < k → k < r → (U.getD k []).getD (cols.getD j 0) 0 = 0) : ∀ k, k ≤ r →
    (elimE p n U cols row k).1.length = k ∧ Rng p (elimE p n U cols row k).1 ∧ (elimE p n U cols row k).2.length = n ∧ Rng p (elimE p n U cols row k).2 ∧
    (∀ j, j < n → row.getD j 0 % p = ((elimE p n U cols row k).2.getD j 0 + sm k fun t => (elimE p n U cols row k).1.getD t 0 * (U.getD t []).getD j 0) % p) ∧
    (∀ t, t < k → (elimE p n U cols row k).2.getD (cols.getD t 0) 0 = 0)
  | 0, _ => by
    refine ⟨rfl, Rng.nil, hl, hr, fun j _ => ?_, fun t h => absurd h (Nat.not_lt_zero _)⟩
    show _ = (row.getD j 0 + 0) % p
    rw [Int.add_zero]
  | k + 1, hk => by
    obtain ⟨a1, a2, a3, a4, a5, a6⟩ := elimE_ok hp hl hr hU h1 h2 k (by omega)
    obtain ⟨b1, b2, b3, b4⟩ := h1 k (by omega)
    obtain ⟨e, he⟩ : ∃ e, elimE p n U cols row k = e := ⟨_, rfl⟩
    obtain ⟨u, hu⟩ : ∃ u, U.getD k [] = u := ⟨_, rfl⟩
    obtain ⟨a, ha⟩ : ∃ a, cols.getD k 0 = a := ⟨_, rfl⟩
    have hE : elimE p n U cols row (k + 1) = (e.1 ++ [mulE p u a e.2], restE p n u a e.2) := by rw [elimE, he, hu, ha]
    rw [hE]
    rw [he] at a1 a2 a3 a4 a5 a6
    rw [ha] at b3; rw [hu, ha] at b4; rw [hu] at b1 b2
    have hx : 0 ≤ mulE p u a e.2 ∧ mulE p u a e.2 < p := mod_range _ hp
    have hrest : ∀ j, j < n → (restE p n u a e.2).getD j 0 = (e.2.getD j 0 - mulE p u a e.2 * u.getD j 0) % p := fun j hj => by
      rw [restE, tab_get _ hj, ms_r]
    refine ⟨by simp [a1], rng_app a2 (Rng.one hx.1 hx.2), tab_len _ _, tab_rng fun j _ => mod_range _ hp, fun j hj => ?_, fun t ht => ?_⟩
    · have e1 : (sm (k + 1) fun t => (e.1 ++ [mulE p u a e.2]).getD t 0 * (U.getD t []).getD j 0) = (sm k fun t => e.1.getD t 0 * (U.getD t []).getD j 0) + mulE p u a e.2 * u.getD j 0 := by
        show sm k _ + (e.1 ++ [mulE p u a e.2]).getD k 0 * (U.getD k []).getD j 0 = _
        rw [hu, sm_congr (g := fun t => e.1.getD t 0 * (U.getD t []).getD j 0) fun t ht => by
          congr 1
          simp [List.getD, List.getElem?_append, show t < e.1.length by omega]]
        congr 2
        simp [List.getD, a1]
      show row.getD j 0 % p = ((restE p n u a e.2).getD j 0 + sm (k + 1) fun t => (e.1 ++ [mulE p u a e.2]).getD t 0 * (U.getD t []).getD j 0) % p
      rw [e1, hrest j hj, ma_l, a5 j hj]
      congr 1
      grind
    · show (restE p n u a e.2).getD (cols.getD t 0) 0 = 0
      by_cases c : t = k
      · subst c
        rw [ha, hrest a b3]
        have hinv := unit_inv p (u.getD a 0) hp (b2.getD hp a).1 b4
        unfold mulE
        have h3 : (e.2.getD a 0 * minv p (u.getD a 0) % p * u.getD a 0) % p = e.2.getD a 0 % p := by
          rw [Int.mul_emod, Int.emod_emod, ← Int.mul_emod, Int.mul_assoc, Int.mul_comm (minv p _), Int.mul_emod, hinv, Int.mul_one, Int.emod_emod]
        rw [Int.sub_emod, h3]; simp
      · have hc : cols.getD t 0 < n := (h1 t (by omega)).2.2.1
        have hz := h2 k t (by omega) (by omega)
        rw [hu] at hz
        rw [hrest _ hc, a6 t (by omega), hz]; simp
theorem getD_app {α : Type} (l : List α) (x d : α) {k : Nat} (h : k < l.length) : (l ++ [x]).getD k d = l.getD k d := by simp [List.getD, List.getElem?_append, h]
theorem getD_end {α : Type} (l : List α) (x d : α) {k : Nat} (h : k = l.length) : (l ++ [x]).getD k d = x := by subst h; simp [List.getD]
theorem unit_zero (hp : 2 ≤ p) {a : Int} (h : unitB p a = true) : a ≠ 0 := by
  rintro rfl
  unfold unitB at h
  simp at h
  omega
theorem ElOk.step {n i : Nat} {R : Nat → List Int} {st st' : ElE} (hp : 2 ≤ p) (h : ElOk p n R i st) (hl : (R i).length = n) (hr : Rng p (R i)) (hs : stepE p n st i (R i) = some st') : ElOk p n R (i + 1) st' := by
  have hE := elimE_ok hp hl hr rfl (fun k hk => ⟨(h.row k hk).1, (h.row k hk).2.1, (h.row k hk).2.2.1, (h.row k hk).2.2.2.1⟩) h.zero st.U.length (Nat.le_refl _)
  obtain ⟨e, he⟩ : ∃ e, elimE p n st.U st.cols (R i) st.U.length = e := ⟨_, rfl⟩
  unfold stepE at hs
  rw [he] at hE hs
  obtain ⟨a1, a2, a3, a4, a5, a6⟩ := hE
  simp only at hs
  have hrl := h.lr; have hkl := h.lk; have hcl := h.lc
  by_cases hlt : leadE e.2 < n
  · rw [if_pos hlt] at hs
    by_cases hu : unitB p (e.2.getD (leadE e.2) 0) = true
    · rw [if_pos hu] at hs
      injection hs with hs
      subst hs
      refine ⟨by simp [h.lc], by simp [h.lr], by simp [h.lk], fun k hk => ?_, fun k j hj hk => ?_, fun j k hj hk => ?_, fun k hk => ?_, fun k hk => ?_, fun k hk j hj => ?_, fun t ht => ?_⟩
      · simp only [List.length_append, List.length_cons, List.length_nil] at hk
        by_cases c : k < st.U.length
        · show ((st.U ++ [e.2]).getD k []).length = n ∧ _
          simp only [getD_app st.U e.2 [] c, getD_app st.cols (leadE e.2) 0 (show k < st.cols.length by omega)]
          exact h.row k c
        · have ck : k = st.U.length := by omega
          simp only [getD_end st.U e.2 [] ck, getD_end st.cols (leadE e.2) 0 (show k = st.cols.length by omega)]
          exact ⟨a3, a4, hlt, hu, fun j hj => leadE_zero hj, unit_zero hp hu⟩
      · simp only [List.length_append, List.length_cons, List.length_nil] at hk
        by_cases c : k < st.U.length
        · simp only [getD_app st.U e.2 [] c, getD_app st.cols (leadE e.2) 0 (show j < st.cols.length by omega)]
          exact h.zero k j hj c
        · have ck : k = st.U.length := by omega
          simp only [getD_end st.U e.2 [] ck, getD_app st.cols (leadE e.2) 0 (show j < st.cols.length by omega)]
          exact a6 j (by omega)
      · simp only [List.length_append, List.length_cons, List.length_nil] at hk
        by_cases c : k < st.rows.length
        · simp only [getD_app st.rows i 0 c, getD_app st.rows i 0 (show j < st.rows.length by omega)]
          exact h.inc j k hj c
        · simp only [getD_end st.rows i 0 (show k = st.rows.length by omega), getD_app st.rows i 0 (show j < st.rows.length by omega)]
          exact h.low j (by omega)
      · simp only [List.length_append, List.length_cons, List.length_nil] at hk
        by_cases c : k < st.rows.length
        · simp only [getD_app st.rows i 0 c]
          have := h.low k c; omega
        · simp only [getD_end st.rows i 0 (show k = st.rows.length by omega)]; omega
      · by_cases c : k < i
        · simp only [getD_app st.C (e.1 ++ [1]) [] (show k < st.C.length by omega), List.length_append, List.length_cons, List.length_nil]
          have := h.cl k c
          exact ⟨by omega, this.2⟩
        · simp only [getD_end st.C (e.1 ++ [1]) [] (show k = st.C.length by omega), List.length_append, List.length_cons, List.length_nil]
          exact ⟨by omega, rng_app a2 (Rng.one (by omega) (by omega))⟩
      · by_cases c : k < i
        · simp only [getD_app st.C (e.1 ++ [1]) [] (show k < st.C.length by omega)]
          rw [h.made k c j hj, sm_congr fun t ht => ?_]
          have := (h.cl k c).1
          simp only [getD_app st.U e.2 [] (show t < st.U.length by omega)]
        · have ck : k = i := by omega
          subst ck
          simp only [getD_end st.C (e.1 ++ [1]) [] (show k = st.C.length by omega), List.length_append, List.length_cons, List.length_nil, a1]
          show _ = (sm st.U.length _ + (e.1 ++ [1]).getD st.U.length 0 * ((st.U ++ [e.2]).getD st.U.length []).getD j 0) % p
          rw [getD_end e.1 1 0 a1.symm, getD_end st.U e.2 [] rfl, a5 j hj, Int.one_mul, Int.add_comm, sm_congr fun t ht => ?_]
          simp only [getD_app e.1 1 0 (show t < e.1.length by omega), getD_app st.U e.2 [] ht]
      · simp only [List.length_append, List.length_cons, List.length_nil] at ht
        by_cases c : t < st.rows.length
        · have := h.low t c
          simp only [getD_app st.rows i 0 c, getD_app st.C (e.1 ++ [1]) [] (show st.rows.getD t 0 < st.C.length by omega)]
          exact h.one t c
        · have ct : t = st.rows.length := by omega
          simp only [getD_end st.rows i 0 ct, getD_end st.C (e.1 ++ [1]) [] (show i = st.C.length by omega), List.length_append, List.length_cons, List.length_nil]
          exact ⟨by omega, getD_end e.1 1 0 (by omega)⟩
    · rw [if_neg hu] at hs; cases hs
  · rw [if_neg hlt] at hs
    injection hs with hs
    subst hs
    refine ⟨by simp [h.lc], h.lr, h.lk, h.row, h.zero, h.inc, fun k hk => Nat.lt_succ_of_lt (h.low k hk), fun k hk => ?_, fun k hk j hj => ?_, fun t ht => ?_⟩
    · by_cases c : k < i
      · simp only [getD_app st.C e.1 [] (show k < st.C.length by omega)]; exact h.cl k c
      · simp only [getD_end st.C e.1 [] (show k = st.C.length by omega)]; exact ⟨by omega, a2⟩
    · by_cases c : k < i
      · simp only [getD_app st.C e.1 [] (show k < st.C.length by omega)]; exact h.made k c j hj
      · have ck : k = i := by omega
        subst ck
        simp only [getD_end st.C e.1 [] (show k = st.C.length by omega), a1]
        have hz : e.2.getD j 0 = 0 := leadE_zero (show j < leadE e.2 by have := leadE_le e.2; omega)
        rw [a5 j hj, hz, Int.zero_add]
    · have := h.low t ht
      simp only [getD_app st.C e.1 [] (show st.rows.getD t 0 < st.C.length by omega)]
      exact h.one t ht
theorem ElOk.nil (n : Nat) (R : Nat → List Int) : ElOk p n R 0 .nil :=
  ⟨rfl, rfl, rfl, fun _ h => absurd h (Nat.not_lt_zero _), fun _ _ _ h => absurd h (Nat.not_lt_zero _), fun _ _ _ h => absurd h (Nat.not_lt_zero _), fun _ h => absurd h (Nat.not_lt_zero _), fun _ h => absurd h (Nat.not_lt_zero _), fun _ h => absurd h (Nat.not_lt_zero _), fun _ h => absurd h (Nat.not_lt_zero _)⟩
theorem takeE_ok {n : Nat} {R : Nat → List Int} (hp : 2 ≤ p) : ∀ (m : Nat) {st : ElE}, (∀ i, i < m → (R i).length = n ∧ Rng p (R i)) → takeE p n R m = some st → ElOk p n R m st
  | 0, st, _, h => by
    simp only [takeE] at h
    injection h with h
    subst h
    exact ElOk.nil n R
  | m + 1, st, hR, h => by
    simp only [takeE] at h
    cases h1 : takeE p n R m with
    | none => rw [h1] at h; cases h
    | some s1 =>
      rw [h1] at h
      exact (takeE_ok hp m (fun i hi => hR i (by omega)) h1).step hp (hR m (by omega)).1 (hR m (by omega)).2 h
theorem takeE_some {n : Nat} {R : Nat → List Int} (hp : 2 ≤ p) (hf : Fld p) : ∀ m : Nat, (∀ i, i < m → (R i).length = n ∧ Rng p (R i)) → ∃ st, takeE p n R m = some st
  | 0, _ => ⟨_, rfl⟩
  | m + 1, hR => by
    obtain ⟨s1, h1⟩ := takeE_some hp hf m fun i hi => hR i (by omega)
    have ok := takeE_ok hp m (fun i hi => hR i (by omega)) h1
    simp only [takeE, h1, Option.bind_some]
    have hE := elimE_ok hp (hR m (by omega)).1 (hR m (by omega)).2 rfl (fun k hk => ⟨(ok.row k hk).1, (ok.row k hk).2.1, (ok.row k hk).2.2.1, (ok.row k hk).2.2.2.1⟩) ok.zero s1.U.length (Nat.le_refl _)
    obtain ⟨e, he⟩ : ∃ e, elimE p n s1.U s1.cols (R m) s1.U.length = e := ⟨_, rfl⟩
    unfold stepE
    rw [he] at hE ⊢
    obtain ⟨_, _, a3, a4, _, _⟩ := hE
    simp only
    by_cases hlt : leadE e.2 < n
    · rw [if_pos hlt]
      have h0 := leadE_ne (l := e.2) (by omega)
      have h2 := a4.getD hp (leadE e.2)
      rw [if_pos (hf _ (by omega) h2.2)]
      exact ⟨_, rfl⟩
    · rw [if_neg hlt]; exact ⟨_, rfl⟩
end Go.Proofs.YthomeenmcajmdaaGreatDoor
namespace Go.Proofs.YthomeenmcajmdaaGreatDoor
variable {p : Int}
theorem Fld.has (hf : Fld p) (hp : 2 ≤ p) : HasInv p := ⟨hp, fun a ha => by
  have h0 := Int.emod_nonneg a (show p ≠ 0 by omega)
  have h1 := Int.emod_lt_of_pos a (show 0 < p by omega)
  have h2 := unit_inv p (a % p) hp h0 (hf (a % p) (by omega) h1)
  exact ⟨minv p (a % p), by rw [Int.mul_emod, Int.emod_emod] at h2; rw [Int.mul_emod]; exact h2⟩⟩
def lf (xs : List Int) : RowF := fun j => xs.getD j 0
theorem sm_long {f : Nat → Int} {m n : Nat} (h : m ≤ n) (hz : ∀ k, m ≤ k → k < n → f k = 0) : sm n f = sm m f := by
  have := sm_piece (f := f) 0 m (n := n) (by omega) (fun i hi => absurd hi (Nat.not_lt_zero _)) fun i h1 h2 => hz i (by omega) h2
  rw [this]
  exact sm_congr fun k _ => by rw [Nat.zero_add]
variable {n m : Nat} {R : Nat → List Int} {st : ElE}
theorem ElOk.full (h : ElOk p n R m st) {i : Nat} (hi : i < m) {j : Nat} (hj : j < n) : (R i).getD j 0 % p = (sm st.U.length fun t => (st.C.getD i []).getD t 0 * (st.U.getD t []).getD j 0) % p := by
  rw [h.made i hi j hj, sm_long (h.cl i hi).1 fun k h1 _ => by rw [getD_over h1, Int.zero_mul]]
theorem ElOk.ech (h : ElOk p n R m st) : Ech p n st.U.length (fun k => lf (st.U.getD k [])) fun k => st.cols.getD k 0 :=
  ⟨fun i hi => (h.row i hi).2.2.1, fun i hi => by
    obtain ⟨_, b2, b3, _, _, b6⟩ := h.row i hi
    have := b2.get (k := st.cols.getD i 0) (by omega)
    show (st.U.getD i []).getD (st.cols.getD i 0) 0 % p ≠ 0
    rw [Int.emod_eq_of_lt this.1 this.2]; exact b6, fun i k hk hi => by
    show (st.U.getD i []).getD (st.cols.getD k 0) 0 % p = 0
    rw [h.zero i k hk hi]; simp⟩
theorem ElOk.bas (hp : HasInv p) (h : ElOk p n R m st) : Bas p n m st.U.length (fun i => lf (R i)) fun k => lf (st.U.getD k []) := by
  refine ⟨h.ech.ind hp, fun i hi => ⟨fun t => (st.C.getD i []).getD t 0, fun j hj => h.full hi hj⟩, fun k => ?_⟩
  induction k using Nat.strongRecOn with
  | ind k ih =>
    intro hk
    have hkr : k < st.rows.length := by rw [h.lr]; exact hk
    obtain ⟨c1, c2⟩ := h.one k hkr
    have hlow := h.low k hkr
    obtain ⟨i, hi⟩ : ∃ i, st.rows.getD k 0 = i := ⟨_, rfl⟩
    rw [hi] at c1 c2 hlow
    have hs := Comb.sum (p := p) (n := n) (r := m) (m := k + 1) (u := fun i => lf (R i)) (w := fun t => if t = k then lf (R i) else lf (st.U.getD t [])) (fun t ht => by
      by_cases e : t = k
      · simp only [if_pos e]; exact Comb.one _ hlow
      · simp only [if_neg e]; exact ih t (by omega) (by omega)) fun t => if t = k then 1 else - (st.C.getD i []).getD t 0
    refine hs.congr fun j hj => ?_
    have hm := h.made i hlow j hj
    rw [c1] at hm
    show (st.U.getD k []).getD j 0 % p = (sm k _ + (if k = k then 1 else _) * (if k = k then lf (R i) else _) j) % p
    rw [if_pos rfl, if_pos rfl, Int.one_mul, sm_congr (g := fun t => - ((st.C.getD i []).getD t 0 * (st.U.getD t []).getD j 0)) fun t ht => by
      rw [if_neg (by omega), if_neg (by omega)]; show - _ * (st.U.getD t []).getD j 0 = _; grind, sm_neg]
    show _ = (- _ + (R i).getD j 0) % p
    have hm2 : (R i).getD j 0 % p = ((sm k fun t => (st.C.getD i []).getD t 0 * (st.U.getD t []).getD j 0) + (st.U.getD k []).getD j 0) % p := by
      rw [hm]
      show (sm k _ + (st.C.getD i []).getD k 0 * _) % p = _
      rw [c2, Int.one_mul]
    rw [Int.add_emod, hm2, ← Int.add_emod]
    congr 1
    omega
theorem Alt.dep {f : List RowF → Int} (h : Alt n f) (hp : HasInv p) {ms : List RowF} (lm : ms.length = n) {x : Nat → Int} {i0 : Nat} (h0 : i0 < n) (hx : x i0 % p ≠ 0) (hz : ∀ j, j < n → (sm n fun i => x i * rwF ms i j) % p = 0) : f ms % p = 0 := by
  have hl : ∀ y : RowF, (ms.take i0 ++ y :: ms.drop (i0 + 1)).length = n := fun y => by simp; omega
  have e0 : ms = ms.take i0 ++ rwF ms i0 :: ms.drop (i0 + 1) := by rw [← rwF_drop (by omega), List.take_append_drop]
  have h1 := h.sum (ms.take i0) (fun _ => 0) (ms.drop (i0 + 1)) (hl _) x (fun i => rwF ms i) n
  have h2 := h.mod (p := p) (ms.take i0) (fun j => 0 + sm n fun i => x i * rwF ms i j) (fun _ => 0) (ms.drop (i0 + 1)) (hl _) fun j hj => by rw [Int.zero_add, hz j hj]; simp
  have h3 := h.zero (hl fun _ => 0)
  rw [h1, h3, Int.zero_add, sm_congr (g := fun i => if i = i0 then x i0 * f ms else 0) fun i hi => ?_, sm_single (fun _ => x i0 * f ms) h0] at h2
  · refine mz_cancel hp hx ?_
    rw [Int.mul_comm, h2]; simp
  · rcases Nat.lt_trichotomy i i0 with c | c | c
    · rw [if_neg (by omega)]
      have hm : rwF ms i ∈ ms.take i0 := by
        have e : rwF ms i = rwF (ms.take i0) i := by simp [rwF, List.getD, c]
        rw [e]; exact rwF_mem (by simp; omega)
      rw [h.memL hm (hl _), Int.mul_zero]
    · subst c; rw [if_pos rfl, ← e0]
    · rw [if_neg (by omega)]
      have hm : rwF ms i ∈ ms.drop (i0 + 1) := by
        have e : rwF ms i = rwF (ms.drop (i0 + 1)) (i - (i0 + 1)) := by simp [rwF, List.getD, show i0 + 1 + (i - (i0 + 1)) = i by omega]
        rw [e]; exact rwF_mem (by simp; omega)
      rw [h.memR hm (hl _), Int.mul_zero]
def rowsF (n : Nat) (R : Nat → List Int) : List RowF := (List.range n).map fun i => lf (R i)
theorem rowsF_get {R : Nat → List Int} {i : Nat} (h : i < n) : rwF (rowsF n R) i = lf (R i) := by simp [rowsF, rwF, List.getD, h]
theorem rowsF_len (R : Nat → List Int) : (rowsF n R).length = n := by simp [rowsF]
theorem inc_id {l : List Nat} (hl : l.length = n) (hi : ∀ j k, j < k → k < l.length → l.getD j 0 < l.getD k 0) (hb : ∀ k, k < l.length → l.getD k 0 < n) : ∀ k, k < n → l.getD k 0 = k := by
  have h1 : ∀ k, k < n → k ≤ l.getD k 0 := by
    intro k
    induction k with
    | zero => intro _; omega
    | succ k ih => intro hk; have := ih (by omega); have := hi k (k + 1) (by omega) (by omega); omega
  have h2 : ∀ d k, k + d + 1 = n → l.getD k 0 ≤ k := by
    intro d
    induction d with
    | zero => intro k hk; have := hb k (by omega); omega
    | succ d ih => intro k hk; have := ih (k + 1) (by omega); have := hi k (k + 1) (by omega) (by omega); omega
  intro k hk
  have := h1 k hk
  have := h2 (n - k - 1) k (by omega)
  omega
def colsZ (st : ElE) : List Int := st.cols.map fun k : Nat => (k : Int)
theorem colsZ_get (st : ElE) (k : Nat) : ((colsZ st).getD k 0).toNat = st.cols.getD k 0 := by
  unfold colsZ
  simp only [List.getD, List.getElem?_map]
  cases st.cols[k]? <;> simp
theorem ElOk.cols_ord (h : ElOk p n R m st) (hr : st.U.length = n) : Ord n (colsZ st) := by
  have hl : (colsZ st).length = n := by simp [colsZ, h.lk, hr]
  have hn : (colsZ st).Nodup := by
    unfold colsZ List.Nodup
    rw [List.pairwise_map, List.pairwise_iff_getElem]
    intro i k hi hk hik e
    have e' : st.cols.getD i 0 = st.cols.getD k 0 := by simp only [List.getD, List.getElem?_eq_getElem hi, List.getElem?_eq_getElem hk, Option.getD_some]; omega
    have := h.ech.inj (by have := h.lk; omega) (by have := h.lk; omega) e'
    omega
  refine Ord.of_perm (nodup_sub hn (fun x hx => ?_) (by rw [hl, upL_len]; omega)).symm
  obtain ⟨c, hc, rfl⟩ := List.mem_map.1 hx
  obtain ⟨k, hk, rfl⟩ := List.getElem_of_mem hc
  have := (h.row k (by have := h.lk; omega)).2.2.1
  rw [List.getD, List.getElem?_eq_getElem hk] at this
  exact upL_mem.2 ⟨by omega, by simpa using this⟩
def detE (n : Nat) (st : ElE) : Int := if st.U.length < n then 0 else prN n (fun k => (st.U.getD k []).getD (st.cols.getD k 0) 0) * sgnL (colsZ st)
theorem ElOk.le (h : ElOk p n R m st) : st.U.length ≤ m := by
  have h1 : ∀ k, k < st.rows.length → k ≤ st.rows.getD k 0 := by
    intro k
    induction k with
    | zero => intro _; omega
    | succ k ih => intro hk; have := ih (by omega); have := h.inc k (k + 1) (by omega) hk; omega
  have hlr := h.lr
  rcases Nat.eq_zero_or_pos st.U.length with h0 | h0
  · omega
  · have h2 := h1 (st.rows.length - 1) (by omega)
    have h3 := h.low (st.rows.length - 1) (by omega)
    omega
theorem ElOk.alt {f : List RowF → Int} (hf : Alt n f) (hp : HasInv p) (h : ElOk p n R n st) : f (rowsF n R) % p = detE n st * f (idF n) % p := by
  unfold detE
  by_cases hr : st.U.length < n
  · rw [if_pos hr, Int.zero_mul, Int.zero_emod]
    obtain ⟨x, ⟨i0, h0, hx⟩, hz⟩ := nontriv hp st.U.length n hr fun i k => (st.C.getD i []).getD k 0
    refine hf.dep hp (rowsF_len R) h0 hx fun j hj => ?_
    rw [sm_mod (g := fun i => x i * sm st.U.length fun t => (st.C.getD i []).getD t 0 * (st.U.getD t []).getD j 0) fun i hi => by
      rw [rowsF_get hi, Int.mul_emod]
      show _ * ((R i).getD j 0 % p) % p = _
      rw [h.full hi hj, ← Int.mul_emod]]
    have e : (sm n fun i => x i * sm st.U.length fun t => (st.C.getD i []).getD t 0 * (st.U.getD t []).getD j 0) = sm st.U.length fun t => (sm n fun i => x i * (st.C.getD i []).getD t 0) * (st.U.getD t []).getD j 0 := by
      rw [sm_congr (g := fun i => sm st.U.length fun t => x i * (st.C.getD i []).getD t 0 * (st.U.getD t []).getD j 0) fun i _ => by rw [← sm_mul]; exact sm_congr fun t _ => by grind, sm_comm]
      exact sm_congr fun t _ => by rw [sm_mul_r]
    rw [e]
    exact sm_mz fun t ht => mz_mul' (hz t ht) _
  · rw [if_neg hr]
    have hrn : st.U.length = n := by have := h.le; omega
    have hrow := inc_id (by rw [h.lr]; exact hrn) h.inc h.low
    let us : List RowF := (List.range n).map fun k => lf (st.U.getD k [])
    have hus : ∀ k, k < n → rwF us k = lf (st.U.getD k []) := fun k hk => by simp [us, rwF, List.getD, hk]
    have lu : us.length = n := by simp [us]
    have h1 := hf.tri (p := p) (rowsF_len R) lu (fun i t => (st.C.getD i []).getD t 0) fun i hi j hj => by
      rw [rowsF_get hi, hus i hi]
      obtain ⟨c1, c2⟩ := h.one i (by rw [h.lr, hrn]; exact hi)
      rw [hrow i hi] at c1 c2
      show (R i).getD j 0 % p = _
      rw [h.made i hi j hj, c1]
      show (sm i _ + (st.C.getD i []).getD i 0 * (st.U.getD i []).getD j 0) % p = _
      rw [c2, Int.one_mul, Int.add_comm]
      congr 2
      exact sm_congr fun t ht => by rw [hus t (by omega)]; rfl
    have hord := h.cols_ord hrn
    have h2 := hf.own lu (fun k => st.cols.getD k 0) (fun i k hi hk e => h.ech.inj (by omega) (by omega) e) (fun j hj => by
        obtain ⟨k, hk, e⟩ := hord.find hj
        refine ⟨k, hk, ?_⟩
        have := colsZ_get st k
        omega) fun i k hk hi => by
      rw [hus i hi]; exact h.zero i k hk (by omega)
    have h3 := hf.order hord
    have e3 : ((List.range n).map fun i => eR ((colsZ st).getD i 0).toNat) = (List.range n).map fun i => eR (st.cols.getD i 0) := List.map_congr_left fun i _ => by rw [colsZ_get]
    rw [e3] at h3
    rw [h1, h2, h3]
    have e4 : prN n (fun i => rwF us i (st.cols.getD i 0)) = prN n fun k => (st.U.getD k []).getD (st.cols.getD k 0) 0 := by
      have : ∀ k, k ≤ n → prN k (fun i => rwF us i (st.cols.getD i 0)) = prN k fun k => (st.U.getD k []).getD (st.cols.getD k 0) 0 := by
        intro k
        induction k with
        | zero => intro _; rfl
        | succ k ih => intro hk; show prN k _ * rwF us k (st.cols.getD k 0) = prN k _ * (st.U.getD k []).getD (st.cols.getD k 0) 0; rw [ih (by omega), hus k (by omega)]; rfl
      exact this n (Nat.le_refl _)
    rw [e4, Int.mul_assoc]
theorem ElOk.det (hp : HasInv p) (h : ElOk p n R n st) : detN n (rowsF n R) % p = detE n st % p := by
  have := h.alt (detN_alt n) hp
  rwa [det_id, Int.mul_one] at this
def mulR (n : Nat) (B : Nat → RowF) (x : RowF) : RowF := fun j => sm n fun l => x l * B l j
theorem detM_alt (n : Nat) (B : Nat → RowF) : Alt n fun l => detN n (l.map (mulR n B)) := by
  refine ⟨fun pre x y post hl hxy => ?_, fun pre x y post a b hl => ?_, fun pre x post hl => ?_⟩
  · simp only [List.map_append, List.map_cons]
    refine detN_ext n _ _ _ _ (by simpa using hl) fun j _ => ?_
    exact sm_congr fun l hl => by rw [hxy l hl]
  · simp only [List.map_append, List.map_cons]
    have e : mulR n B (fun j => a * x j + b * y j) = fun j => a * mulR n B x j + b * mulR n B y j := by
      funext j
      unfold mulR
      rw [← sm_mul, ← sm_mul, ← sm_add]
      exact sm_congr fun l _ => by grind
    rw [e]
    exact detN_lin n _ _ _ _ a b (by simpa using hl)
  · simp only [List.map_append, List.map_cons]
    exact detN_adj n _ _ _ (by simpa using hl)
theorem det_mul (hp : HasInv p) {A B : Nat → List Int} {sa : ElE} (h : ElOk p n A n sa) : detN n ((rowsF n A).map (mulR n fun l => lf (B l))) % p = detE n sa * detN n (rowsF n B) % p := by
  have h1 := h.alt (detM_alt n fun l => lf (B l)) hp
  have e : (idF n).map (mulR n fun l => lf (B l)) = (List.range n).map fun i => mulR n (fun l => lf (B l)) (eR i) := by simp [idF, Function.comp_def]
  have h2 : detN n ((idF n).map (mulR n fun l => lf (B l))) = detN n (rowsF n B) := by
    rw [e]
    exact detF_congr n fun i j hi hj => by
      show sm n (fun l => eR i l * lf (B l) j) = lf (B i) j
      rw [sm_congr (g := fun l => if l = i then lf (B i) j else 0) fun l _ => by
        unfold eR
        by_cases e : l = i
        · subst e; simp
        · simp [e], sm_single (fun _ => lf (B i) j) hi]
  rw [h2] at h1
  exact h1
end Go.Proofs.YthomeenmcajmdaaGreatDoor
namespace Go.Proofs.YthomeenmcajmdaaGreatDoor
variable {p : Int} {n m : Nat} {R : Nat → List Int} {st : ElE}
theorem stepE_rows {i : Nat} {row : List Int} {s' : ElE} (h : stepE p n st i row = some s') : s'.rows = st.rows ∨ s'.rows = st.rows ++ [i] := by
  unfold stepE at h
  simp only at h
  split at h
  · split at h
    · injection h with h; subst h; exact .inr rfl
    · cases h
  · injection h with h; subst h; exact .inl rfl
theorem takeE_prefix {i : Nat} {s1 : ElE} (h1 : takeE p n R i = some s1) : ∀ (d : Nat) {s2 : ElE}, takeE p n R (i + d) = some s2 → ∃ t, s2.rows = s1.rows ++ t ∧ ∀ x ∈ t, i ≤ x
  | 0, s2, h => by
    rw [Nat.add_zero, h1] at h
    injection h with h
    subst h
    exact ⟨[], by simp, by simp⟩
  | d + 1, s2, h => by
    have h' : (takeE p n R (i + d)).bind (fun st => stepE p n st (i + d) (R (i + d))) = some s2 := h
    cases h3 : takeE p n R (i + d) with
    | none => rw [h3] at h'; cases h'
    | some s3 =>
      rw [h3] at h'
      obtain ⟨t, e, ht⟩ := takeE_prefix h1 d h3
      rcases stepE_rows (p := p) (n := n) (st := s3) (i := i + d) (row := R (i + d)) (s' := s2) h' with e2 | e2
      · exact ⟨t, e2.trans e, ht⟩
      · refine ⟨t ++ [i + d], by rw [e2, e, List.append_assoc], fun x hx => ?_⟩
        rcases List.mem_append.1 hx with hx | hx
        · exact ht x hx
        · have : x = i + d := by simpa using hx
          omega
theorem takeE_congr {R' : Nat → List Int} : ∀ m : Nat, (∀ i, i < m → R i = R' i) → takeE p n R m = takeE p n R' m
  | 0, _ => rfl
  | m + 1, h => by simp only [takeE]; rw [takeE_congr m fun i hi => h i (by omega), h m (by omega)]
theorem Ind.steps {r : Nat} {u w : Nat → RowF} (hu : Ind p n r u) (c : Nat → Nat → Int) (h1 : ∀ i, i < r → c i i = 1) (h2 : ∀ i t, i < t → t < r → c i t = 0) (hw : ∀ i, i < r → ∀ j, j < n → w i j % p = (sm r fun t => c i t * u t j) % p) : Ind p n r w := by
  intro x hx
  have hy : ∀ t, t < r → (sm r fun i => x i * c i t) % p = 0 := hu _ fun j hj => by
    have e : (sm r fun t => (sm r fun i => x i * c i t) * u t j) = sm r fun i => x i * sm r fun t => c i t * u t j := by
      rw [sm_congr (g := fun t => sm r fun i => x i * (c i t * u t j)) fun t _ => by rw [← sm_mul_r]; exact sm_congr fun i _ => by grind, sm_comm]
      exact sm_congr fun i _ => by rw [sm_mul]
    rw [e, ← hx j hj]
    exact sm_mod fun i hi => by rw [Int.mul_emod, ← hw i hi j hj, ← Int.mul_emod]
  have main : ∀ d k, k + d + 1 = r → x k % p = 0 := by
    intro d
    induction d using Nat.strongRecOn with
    | ind d ih =>
      intro k hk
      have h := hy k (by omega)
      rw [sm_mod (g := fun i => if i = k then x k else 0) fun i hi => ?_, sm_single (fun _ => x k) (by omega)] at h
      · exact h
      · rcases Nat.lt_trichotomy i k with e | e | e
        · rw [if_neg (by omega), h2 i k e (by omega)]; simp
        · subst e; rw [if_pos rfl, h1 i hi, Int.mul_one]
        · rw [if_neg (by omega), mz_mul' (ih (r - i - 1) (by omega) i (by omega))]; simp
  exact fun k hk => main (r - k - 1) k (by omega)
theorem ElOk.minor (hp : HasInv p) (h : ElOk p n R m st) (sc : Nat → Nat) {q : Nat} (hs : ∀ k, k < st.U.length → ∃ l, l < q ∧ sc l = st.cols.getD k 0) : Ind p q st.U.length fun i l => (R (st.rows.getD i 0)).getD (sc l) 0 := by
  intro x hx
  have hrl := h.lr
  have hfull : ∀ i, i < st.U.length → ∀ j, j < n → lf (R (st.rows.getD i 0)) j % p = (sm st.U.length fun t => (st.C.getD (st.rows.getD i 0) []).getD t 0 * lf (st.U.getD t []) j) % p := fun i hi j hj => h.full (h.low i (by omega)) hj
  have hind : Ind p n st.U.length fun i => lf (R (st.rows.getD i 0)) := (h.ech.ind hp).steps (fun i t => (st.C.getD (st.rows.getD i 0) []).getD t 0) (fun i hi => (h.one i (by omega)).2) (fun i t hit _ => getD_over (by rw [(h.one i (by omega)).1]; omega)) hfull
  refine hind x ?_
  have hc : Comb p n st.U.length (fun k => lf (st.U.getD k [])) fun j => sm st.U.length fun i => x i * lf (R (st.rows.getD i 0)) j := Comb.sum (fun i hi => ⟨fun t => (st.C.getD (st.rows.getD i 0) []).getD t 0, fun j hj => hfull i hi j hj⟩) x
  exact h.ech.none hp hc fun k hk => by
    obtain ⟨l, hl, e⟩ := hs k hk
    have := hx l hl
    rw [← e]; exact this
end Go.Proofs.YthomeenmcajmdaaGreatDoor
