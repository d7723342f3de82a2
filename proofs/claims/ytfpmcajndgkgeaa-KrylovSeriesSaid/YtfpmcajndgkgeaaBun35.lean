/- What the texts SerC, SerRule, SerRule2, RuleN, FindsM show, in one text. -/
import Derived.Test.YtfpmcajndgkgeaaBun34
import Derived.Test.YtfpmcajndgkgeaaBun08
import Derived.Test.YtfpmcajndgkgeaaBun06
import Derived.Deep.RegionHeld3
import Derived.Deep.DrawnRows
import Derived.Test.YtfpmcajndgkgeaaBun05
/- What package series answers of rules: Right, Obeys, Poly, and by how much a row's last number fails one. -/
namespace Go.Proofs.Ytfpmcajndgkgeaa
open Go.RowKit

set_option maxRecDepth 100000 in
set_option maxHeartbeats 400000 in
theorem sRight (p : Int) (v : Value) (c : List Int) (w : World) (h0 : 0 ≤ p) (h1 : p ≤ 18446744073709551615) (hv : Ints .u64 w v c) (hx : U64s c) :
    Calls Try.prog 106 #[.int .u64 p, v] w fun e w' => e = .returned (.bool (ruleB p c)) ∧ w = w' := by
  have hh := has_any p v c w h0 h1 hv hx
  obtain ⟨R, hR⟩ : ∃ R, ruleB p c = R := ⟨_, rfl⟩
  rw [hR]
  unfold ruleB at hR
  obtain ⟨B, hB⟩ : ∃ B, hasB p c = B := ⟨_, rfl⟩
  rw [hB] at hR hh
  obtain ⟨a, cap, rfl, hc1, hc2, hc⟩ := hv
  have Hh := hid hh
  clear hB hh
  by_cases h2 : 0 < c.length
  · obtain ⟨b, off, rfl, hb, hcell⟩ := hc h2
    have g := hcell 0 h2
    have gb := U64s.get hx h2
    obtain ⟨x, ex⟩ : ∃ x, c.getD 0 0 = x := ⟨_, rfl⟩
    rw [ex] at g hR gb
    rw [Nat.add_zero] at g
    rw [decide_eq_true h2, Bool.true_and] at hR
    clear hc hcell ex
    by_cases h3 : c.length < 258
    · rw [decide_eq_true h3, Bool.true_and] at hR
      have t3 : (c.length : Int) ≤ 257 := by omega
      by_cases hx1 : x = 1
      · rw [decide_eq_true hx1, Bool.and_true] at hR
        subst hR
        subst hx1
        go_enter Try.func106, Try.ntmps106
        go_wp2_with (go_at_call 40; refine Hh.out.mono ?_; rintro _ _ ⟨rfl, rfl⟩)
        go_ret
        exact ⟨rfl, rfl⟩
      · rw [decide_eq_false hx1, Bool.and_false] at hR
        subst hR
        have b1 : (x == 1) = false := by simp [hx1]
        clear hx1
        go_enter Try.func106, Try.ntmps106
        go_wp2_with fail
        go_ret
        exact ⟨rfl, rfl⟩
    · rw [decide_eq_false h3, Bool.false_and] at hR
      subst hR
      go_enter Try.func106, Try.ntmps106
      go_wp2_with fail
      go_ret
      exact ⟨rfl, rfl⟩
  · rw [decide_eq_false h2, Bool.false_and] at hR
    subst hR
    clear hc
    go_enter Try.func106, Try.ntmps106
    go_wp2_with fail
    go_ret
    exact ⟨rfl, rfl⟩

set_option maxHeartbeats 400000 in
theorem turned_any (v : Value) (xs : List Int) (w : World) (hv : Ints .u64 w v xs) (h1 : 1 ≤ xs.length) (hl : xs.length ≤ 1000000) :
    Calls Try.prog 103 #[v] w fun e w' => ∃ g cap, e = .returned (.slice (some ⟨g, 0, none⟩) xs.length cap) ∧ xs.length ≤ cap ∧ cap ≤ 9223372036854775807 ∧ w.heap.size ≤ g ∧ WRow w' g 0 xs.reverse ∧ Ext w w' := by
  have c1 := hid (clone_any v xs w hv hl)
  obtain ⟨n, hn⟩ : ∃ n, xs.length = n := ⟨_, rfl⟩
  have Hn := hid hn
  rw [hn] at c1 h1 hl ⊢
  clear hv hn
  go_enter Try.func103, Try.ntmps103
  go_wp2_with fail
  refine c1.out.mono ?_
  rintro _ w1 ⟨a, cap, rfl, k1, k2, k3, x1⟩
  obtain ⟨g, rfl, hg, hr⟩ := k3 (by omega)
  have Hr := hid hr
  clear k3 hr
  go_wp2_with fail
  refine (reverse_any g n cap xs w1 w Hn.out h1 hl Hr.out x1 hg).mono ?_
  rintro _ w2 ⟨⟨u, rfl⟩, r2, x2⟩
  have R2 := hid r2
  clear r2
  go_wp2_with fail
  go_ret
  exact ⟨g, cap, rfl, k1, k2, hg, R2.out, x2⟩

set_option maxHeartbeats 400000 in
theorem breach_any (p : Int) (v u : Value) (s c : List Int) (w : World) (hp : rightB p = true) (hv : Ints .u64 w v s) (hu : Ints .u64 w u c.reverse) (hs : Rng p s) (hc : Rng p c) (h0 : 1 ≤ c.length) (h : c.length ≤ s.length) :
    Calls Try.prog 102 #[.int .u64 p, v, u] w (RetD (.int .u64 ((pol p c * pol p s).co (s.length - 1))) w) := by
  have hp2 := rightB_true hp
  obtain ⟨r, er⟩ : ∃ r, (pol p c * pol p s).co (s.length - 1) = r := ⟨_, rfl⟩
  have E := hid ((breach_at hs hc h0 h).trans er)
  rw [er]
  have hd := hid (hv)
  have Hu := hid hu
  have h1 := hid ((Rng.has (xs := s.drop (s.length - c.length)) (fun x hx => hs x (List.mem_of_mem_drop hx)) hp))
  have h2 := hid ((Rng.has (xs := c.reverse) (fun x hx => hc x (List.mem_reverse.1 hx)) hp))
  have u1 := hid ((hs.u64 hp2.2).drop (s.length - c.length))
  have u2 := hid (show U64s c.reverse from fun x hx => hc.u64 hp2.2 x (List.mem_reverse.1 hx))
  have hl : Hid ((s.drop (s.length - c.length)).length = c.reverse.length) := hid (by simp; omega)
  obtain ⟨a, cap, rfl, k1, k2, k3⟩ := hv
  obtain ⟨a', cap', rfl, m1, m2, m3⟩ := hu
  obtain ⟨b, off, rfl, hb, hcell⟩ := k3 (by omega)
  have lr : c.reverse.length = c.length := List.length_reverse
  rw [lr] at m1 Hu ⊢
  obtain ⟨n, hn⟩ : ∃ n, s.length - c.length = n := ⟨_, rfl⟩
  have hsub : (s.length : Int) - (c.length : Int) = (n : Int) := by omega
  have hn1 : n ≤ s.length := by omega
  have hln : s.length - n = c.length := by omega
  have hn2 : n < cap := by omega
  rw [hn] at h1 u1 hl E
  have hdr := hid (hd.out.drop n hn1 (some ⟨b, off + n, none⟩) (fun _ => rfl) c.length (by omega) (cap - n) rfl)
  clear k3 m3 hcell er hs hc hp lr
  go_enter Try.func102, Try.ntmps102
  go_wp2_with fail
  refine (dotD_as p r _ _ _ _ _ hdr.out Hu.out u1.out u2.out hl.out h1.out h2.out E.out).mono ?_
  rintro _ w1 ⟨rfl, d1⟩
  go_wp2_with fail
  go_ret
  exact ⟨rfl, d1⟩

set_option maxHeartbeats 400000 in
theorem sPoly_no (p : Int) (v : Value) (c : List Int) (w : World) (h0 : 0 ≤ p) (h1 : p ≤ 18446744073709551615) (hv : Ints .u64 w v c) (hx : U64s c) (h : ruleB p c = false) :
    Calls Try.prog 49 #[.int .u64 p, v] w (Ret (.tuple #[.slice none 0 0, .int .i64 1]) w) := by
  have c1 := sRight p v c w h0 h1 hv hx
  rw [h] at c1
  have C1 := hid c1
  clear c1 hv hx h
  go_enter Try.func49, Try.ntmps49
  go_wp2_with (go_at_call 106; refine C1.out.mono ?_; rintro _ _ ⟨rfl, rfl⟩)
  go_ret2
  exact ⟨rfl, (by repeat (first | exact Ext.refl _ | assumption | refine Ext.drew ?_ | refine Ext.drewN ?_ _ | refine Ext.alloc ?_ _ | refine Ext.trans ?_ (by assumption)))⟩
set_option maxHeartbeats 400000 in
theorem sPoly_yes (p : Int) (v : Value) (c : List Int) (w : World) (hv : Ints .u64 w v c) (h : ruleB p c = true) (hx : U64s c) :
    Calls Try.prog 49 #[.int .u64 p, v] w fun e w' => ∃ u, e = .returned (.tuple #[u, .int .i64 0]) ∧ Ints .u64 w' u c.reverse ∧ Ext w w' := by
  obtain ⟨r1, r2, r3, r4, r5⟩ := (ruleB_iff hx).1 h
  have hp2 := rightB_true r1
  have c1 := sRight p v c w (by omega) (by omega) hv hx
  rw [h] at c1
  have C1 := hid c1
  have C2 := hid (turned_any v c w hv (by omega) (by omega))
  clear c1 hx h hv r1 r2 r5
  go_enter Try.func49, Try.ntmps49
  go_wp2_with (go_at_call 106; refine C1.out.mono ?_; rintro _ _ ⟨rfl, rfl⟩)
  refine C2.out.mono ?_
  rintro _ w1 ⟨g, cap, rfl, k1, k2, k3, k4, x1⟩
  have K4 := hid k4
  clear k4
  go_wp2_with fail
  go_ret2
  exact ⟨_, rfl, K4.out.ints' List.length_reverse k1 k2, x1⟩

end Go.Proofs.Ytfpmcajndgkgeaa
/- The shortest rule of a row: series.Rule, and the mending of a rule by an older one. -/
namespace Go.Proofs.Ytfpmcajndgkgeaa
open Go.RowKit

theorem mendL_eq {p : Int} (hp : 2 ≤ p) {rule older l : List Int} {q : Int} {m : Nat} (hr : Rng p rule) (hl : l.length = max rule.length (m + older.length))
    (hg : ∀ t, l.getD t 0 = if m ≤ t ∧ t < m + older.length then (rule.getD t 0 - q * older.getD (t - m) 0) % p else rule.getD t 0) : mendL p rule older q m = l :=
  list_ext (by rw [mendL_len, hl]) fun t _ => by
    rw [mendL_get, hg]
    have hs := hr.getD hp t
    by_cases h1 : t < m
    · rw [if_pos h1, if_neg (by omega), Int.sub_zero]; exact mod_small hs.1 hs.2
    · rw [if_neg h1]
      by_cases h2 : t < m + older.length
      · rw [if_pos (by omega)]
      · rw [if_neg (by omega), getD_over (xs := older) (by omega), Int.mul_zero, Int.sub_zero]; exact mod_small hs.1 hs.2

set_option maxRecDepth 100000 in
set_option maxHeartbeats 1000000 in
theorem mended_any (p q : Int) (m : Nat) (v u : Value) (rule older : List Int) (w : World) (hp : rightB p = true) (hv : Ints .u64 w v rule) (hu : Ints .u64 w u older) (hr : Rng p rule) (ho : Rng p older) (hq0 : 0 ≤ q) (hq : q < p)
    (hl : rule.length ≤ 1000 ∧ older.length ≤ 1000 ∧ m ≤ 1000) (ho1 : 1 ≤ older.length) :
    Calls Try.prog 105 #[.int .u64 p, v, .int .u64 q, u, .int .i64 m] w fun e w' => ∃ v', e = .returned v' ∧ Ints .u64 w' v' (mendL p rule older q m) ∧ Ext w w' := by
  have hp2 := rightB_true hp
  obtain ⟨a, cap, rfl, hc1, hc2, hc⟩ := hv
  obtain ⟨a', cap', rfl, hd1, hd2, hd⟩ := hu
  obtain ⟨b, off, rfl, hb, hcell⟩ := hd (by omega)
  have Hc := hid hc; have Hd := hid hcell; have Hr := hid hr; have Ho := hid ho; have Hp := hid hp
  clear hc hd hp hcell hr ho
  obtain ⟨la, hla⟩ : ∃ la, rule.length = la := ⟨_, rfl⟩
  obtain ⟨lb, hlb⟩ : ∃ lb, older.length = lb := ⟨_, rfl⟩
  obtain ⟨k2, hk2⟩ : ∃ k2, m + lb = k2 := ⟨_, rfl⟩
  have hk2i : (m : Int) + (lb : Int) = (k2 : Int) := by omega
  obtain ⟨n, hn⟩ : ∃ n, max la k2 = n := ⟨_, rfl⟩
  have hcase : (la < n ∧ n = k2) ∨ (k2 ≤ n ∧ n = la) := by omega
  have hsrc : 0 < la → ∃ ad, a = some ad ∧ ∀ j x, (rule.map (Value.int .u64))[j]? = some x → ∀ w', Ext w w' → w'.cell? (ad.add j) = some x := fun h0 => by
    obtain ⟨b, off, rfl, hb, hcell⟩ := Hc.out (by omega)
    refine ⟨_, rfl, fun j x hj w' he => ?_⟩
    have hjl : j < rule.length := by
      rcases Nat.lt_or_ge j rule.length with h | h
      · exact h
      · rw [List.getElem?_eq_none (by simpa using h)] at hj; cases hj
    rw [show ((⟨b, off, none⟩ : Addr).add j) = ⟨b, off + j, none⟩ from Go.WideShapes.add_plain _ _ _, he.cells _ _ hb, hcell j hjl]
    rw [List.getElem?_map, List.getElem?_eq_getElem hjl] at hj
    simp only [Option.map_some, Option.some.injEq] at hj
    rw [← hj]
    simp [List.getD, List.getElem?_eq_getElem hjl]
  have Hsrc := hid hsrc
  clear hsrc
  obtain ⟨cs, hcs⟩ : ∃ cs, rule.map (Value.int .u64) = cs := ⟨_, rfl⟩
  have hcl : cs.length = la := by rw [← hcs, List.length_map, hla]
  have Hone : Hid (∀ x ∈ cs, x.oneCell' = true) := hid (by
    rw [← hcs]
    intro x hx
    obtain ⟨y, _, rfl⟩ := List.mem_map.1 hx
    rfl)
  obtain ⟨cur, hcur⟩ : ∃ cur, (List.replicate n (0 : Int)).map (Value.int .u64) = cur := ⟨_, rfl⟩
  have hcurl : cur.length = n := by rw [← hcur]; simp
  have Hmade : Hid ((madeCells #[Value.int .u64 0] n) = cur.toArray) := hid (by
    rw [← hcur]
    simp [madeCells]
    apply Array.ext
    · simp
    · intro i h1 h2
      simp [Nat.mod_one])
  have Hcs := hid hcs; have Hcur := hid hcur
  rw [hcs] at Hsrc
  have hmk := make_ints (P := Try.prog) 23 22 .u64 8 (by omega) (by kernel_rfl) (by kernel_rfl) n n (Nat.le_refl _) (by omega)
  rw [hla] at hc1 ⊢
  rw [hlb] at hd1 ⊢
  have Hla := hid hla; have Hlb := hid hlb
  rw [hla, hlb] at hl
  rw [hlb] at Hd ho1
  have hmin : cs.length = Nat.min la n := by rw [hcl]; exact (Nat.min_eq_left (by omega)).symm
  have Hmin := hid hmin
  have hnm : n ≤ 10000 := by omega
  have hsz : (Try.prog.info? 22).map (·.size) = some 1 := by kernel_rfl
  have Hn := hid hn; have Hk2 := hid hk2
  rw [Hmade.out] at hmk
  clear hcs hcur hla hlb hmin hn hk2
  rcases hcase with ⟨h1, rfl⟩ | ⟨h1, rfl⟩
  all_goals
    go_enter Try.func105, Try.ntmps105
    go_wp2_with ((with_reducible show wpList _ _ _ _ _ _); refine wpList_copy_splice (o := ⟨some 26, _, _, _, _, _⟩) rfl (.tmp 24) (.tmp 25) 23 23 rfl 22 Try.underlying23 hsz _ _ _ _ _ _ rfl rfl w.heap.size 0 cur 22 (heap_alloc_new w _) cs Hmin.out (fun h => ⟨rfl, by obtain ⟨ad, e, he⟩ := Hsrc.out (by omega); exact ⟨ad, e, fun j x hj => he j x hj _ ((Ext.refl w).alloc _)⟩⟩) (by omega) Hone.out w.heap.size w ((Ext.refl w).alloc _) (Nat.le_refl _) ?_; intro w2 HG2 hB2)
    have hrow : WRow w2 w.heap.size 0 (rule ++ List.replicate (n - rule.length) 0) := WRow.of_blk (t := 22) (rest := []) (by
      have := HG2.out
      rw [← Hcur.out, ← Hcs.out, splice_pad] at this
      rw [List.append_nil]
      exact this)
    have hx0 : Ext w w2 := hB2
    clear HG2
    obtain ⟨g, hg⟩ : ∃ g, w.heap.size = g := ⟨_, rfl⟩
    have hgw : w.heap.size ≤ g := by omega
    rw [hg] at hrow ⊢
    clear hg hB2
    have hpad : (rule ++ List.replicate (n - rule.length) (0 : Int)).length = n := by simp; have := Hla.out; omega
    have Hrow := hid hrow
    have Hpad := hid hpad
    clear hrow hpad
    go_wp2_with fail
    go_loopw [29] (fun i wr => ∃ (k : Nat) (l : List Int), i = .int .i64 k ∧ k ≤ lb ∧ Hid (l.length = n) ∧ Hid (∀ t, l.getD t 0 = if m ≤ t ∧ t < m + k then (rule.getD t 0 - q * older.getD (t - m) 0) % p else rule.getD t 0) ∧ WRow wr g 0 l ∧ Ext w wr) (fun i _ => lb - (intOf i).toNat)
    case atStart => exact ⟨0, _, rfl, Nat.zero_le _, Hpad, hid (fun t => by rw [pad_get, if_neg (by omega)]), Hrow.out, hx0⟩
    case round =>
      obtain ⟨k, l, rfl, hk, hln, hl2, hrw, hxw⟩ := hrel
      clear hx0 Hrow
      have Hrw := hid hrw
      clear hrw
      by_cases hlt : k < lb
      · obtain ⟨K, hK⟩ : ∃ K, m + k = K := ⟨_, rfl⟩
        have hKi : (m : Int) + (k : Int) = (K : Int) := by omega
        have hKn : K < n := by have := Hk2.out; omega
        have g1 := (hxw.cells _ _ hb).trans (Hd.out k hlt)
        have r1 := Ho.out.get (k := k) (by rw [Hlb.out]; exact hlt)
        have r2 := Hr.out.getD hp2.1 K
        have g2 := (Hrw.out.2 K (by rw [hln.out]; omega)).1
        have f2 := (Hrw.out.2 K (by rw [hln.out]; omega)).2
        rw [Nat.zero_add, hl2.out, if_neg (by omega)] at g2
        rw [Nat.zero_add] at f2
        obtain ⟨y, ey⟩ : ∃ y, older.getD k 0 = y := ⟨_, rfl⟩
        obtain ⟨x, ex⟩ : ∃ x, rule.getD K 0 = x := ⟨_, rfl⟩
        rw [ey] at g1 r1; rw [ex] at g2 r2
        obtain ⟨z, ez, z0, z1⟩ := name_mod (p := p) (q * y) hp2.1
        obtain ⟨r, er, r3, r4⟩ := name_mod (p := p) (x - z) hp2.1
        have Ez := hid ez; have Er := hid er; have Ex := hid ex; have Ey := hid ey; have HK := hid hK
        clear ez er ex ey hK
        go_wp2_with fail
        refine (mul_as p q y z _ Hp.out hq0 hq r1.1 r1.2 Ez.out).mono ?_
        rintro _ w3 ⟨rfl, x3⟩
        have g3 := (x3.cells g K (cell_lt g2)).trans g2
        have f3 := ((Hrw.out.ext x3).2 K (by rw [hln.out]; omega)).2
        rw [Nat.zero_add] at f3
        clear g1 g2 f2
        go_wp2_with fail
        refine (sub_as p x z r _ Hp.out r2.1 r2.2 z0 z1 Er.out).mono ?_
        rintro _ w4 ⟨rfl, x4⟩
        have g4 := (x4.cells g K (cell_lt g3)).trans g3
        have f4 := (((Hrw.out.ext x3).ext x4).2 K (by rw [hln.out]; omega)).2
        rw [Nat.zero_add] at f4
        clear g3 f3
        go_wp2_with fail
        go_roundw
        case rel =>
          have hs := ((Hrw.out.ext x3).ext x4).set_ (i := K) (by rw [hln.out]; omega) r
          rw [Nat.zero_add] at hs
          refine ⟨k + 1, l.set K r, by go_num, by omega, hid (by rw [List.length_set]; exact hln.out), hid (fun t => ?_), hs, ((hxw.trans x3).trans x4).setCell (p := ⟨g, K, none⟩) hgw _⟩
          rw [set_get l K t r (by rw [hln.out]; omega), hl2.out]
          have hKo := HK.out
          by_cases e : K = t
          · subst e
            rw [if_pos rfl, if_pos (by omega), Ex.out, show K - m = k by omega, Ey.out, ← Er.out, ← Ez.out, ms_r]
          · rw [if_neg e]
            by_cases e2 : m ≤ t ∧ t < m + k
            · rw [if_pos e2, if_pos (by omega)]
            · rw [if_neg e2, if_neg (by omega)]
        case measure => simp [intOf]; omega
      · obtain rfl : lb = k := by omega
        have hi := hid (Hrw.out.ints' hln.out (Nat.le_refl n) (by omega))
        have he := hid (mendL_eq hp2.1 (older := older) (q := q) (m := m) Hr.out (l := l) (by rw [hln.out, Hlb.out, Hla.out, Hk2.out, Hn.out]) (fun t => by rw [Hlb.out]; exact hl2.out t))
        go_wp2_with fail
        go_ret
        exact ⟨_, rfl, by rw [he.out]; exact hi.out, hxw⟩
end Go.Proofs.Ytfpmcajndgkgeaa
/- The shortest rule of a row: series.Rule. -/
namespace Go.Proofs.Ytfpmcajndgkgeaa
open Go.RowKit

/-- what Rule tells of a row: a rule that it obeys, and no shorter one is obeyed -/
def RuleIs (p : Int) (s c : List Int) : Prop :=
  ruleB p c = true ∧ Rng p c ∧ 1 ≤ c.length ∧ c.length ≤ s.length + 1 ∧ Ob (pol p s) (pol p c) (c.length - 1) s.length ∧ ∀ c' l', Ob (pol p s) c' l' s.length → c.length - 1 ≤ l'
def RetRule (p : Int) (s : List Int) (w : World) (e : Ending) (w' : World) : Prop :=
  (∃ v c, e = .returned (.tuple #[v, .int .i64 0]) ∧ Ints .u64 w' v c ∧ Ext w w' ∧ RuleIs p s c) ∨
  (∃ d, e = .returned (.tuple #[.slice none 0 0, .int .i64 5]) ∧ Ext w w' ∧ 0 < d ∧ d < p ∧ unitB p d = false)

set_option maxHeartbeats 400000 in
theorem sRule_arg (p : Int) (v : Value) (s : List Int) (w : World) (h0 : 0 ≤ p) (h1 : p ≤ 18446744073709551615) (hv : Ints .u64 w v s) (hs : U64s s) (h : hasB p s = false) :
    Calls Try.prog 48 #[.int .u64 p, v] w (Ret (.tuple #[.slice none 0 0, .int .i64 1]) w) := by
  have c1 := hid (has_no p v s w h0 h1 hv hs h)
  clear hv hs h
  go_enter Try.func48, Try.ntmps48
  go_wp2_with (go_at_call 40; refine c1.out.mono ?_; rintro _ _ ⟨rfl, rfl⟩)
  go_ret2
  exact ⟨rfl, (by repeat (first | exact Ext.refl _ | assumption | refine Ext.drew ?_ | refine Ext.drewN ?_ _ | refine Ext.alloc ?_ _ | refine Ext.trans ?_ (by assumption)))⟩

set_option maxRecDepth 100000 in
set_option maxHeartbeats 2000000 in
theorem sRule (p : Int) (v : Value) (s : List Int) (w : World) (hp : rightB p = true) (hv : Ints .u64 w v s) (hs : Rng p s) (hl : s.length ≤ 256) :
    Calls Try.prog 48 #[.int .u64 p, v] w (RetRule p s w) := by
  have hp2 := rightB_true hp
  have C1 := hid (has_yes p v s w hv (hs.u64 hp2.2) (hs.has hp))
  have Hv := hid hv; have Hs := hid hs; have Hp := hid hp
  obtain ⟨a, cap, rfl, k1, k2, k3⟩ := hv
  clear k3 hs hp
  obtain ⟨n, hn⟩ : ∃ n, s.length = n := ⟨_, rfl⟩
  have Hn := hid hn
  rw [hn] at C1 Hv hl k1 ⊢
  clear hn
  go_enter Try.func48, Try.ntmps48
  go_wp2_with (go_at_call 40; refine C1.out.mono ?_; rintro _ _ ⟨rfl, rfl⟩)
  go_loopw [26, 6, 7, 8] (fun i rv ov fv wr => ∃ (k n1 n2 c1 c2 : Nat) (a1 a2 : Option Addr) (rule older : List Int) (d : Int), i = .int .i64 k ∧ rv = .slice a1 n1 c1 ∧ ov = .slice a2 n2 c2 ∧ fv = .int .u64 d ∧
    Hid (rule.length = n1) ∧ Hid (older.length = n2) ∧ 1 ≤ n1 ∧ n1 ≤ k + 1 ∧ 1 ≤ n2 ∧ n1 + n2 ≤ k + 2 ∧ k ≤ n ∧ 0 < d ∧ d < p ∧ Hid (Ints .u64 wr (.slice a1 n1 c1) rule) ∧ Hid (Ints .u64 wr (.slice a2 n2 c2) older) ∧ Hid (RInv p s rule older d k) ∧ Ext w wr) (fun i _ _ _ _ => n - (intOf i).toNat)
  case atStart =>
    exact ⟨0, 1, 1, 1, 1, _, _, [1], [1], 1, rfl, rfl, rfl, rfl, hid rfl, hid rfl, by omega, by omega, by omega, by omega, by omega, by omega, by omega, hid (Ints.new1.alloc _), hid (Ints.at1 (by simp)), hid (RInv.start hp2.1 s), (by repeat (first | exact Ext.refl _ | assumption | refine Ext.drew ?_ | refine Ext.drewN ?_ _ | refine Ext.alloc ?_ _ | refine Ext.trans ?_ (by assumption)))⟩
  case round =>
    obtain ⟨k, n1, n2, c1, c2, a1, a2, rule, older, d, rfl, rfl, rfl, rfl, Hr, Ho, g1, g2, g3, g4, g5, g6, g7, Ir, Io, HI, hx⟩ := hrel
    by_cases hlt : k < n
    · have hkc : (k : Int) + 1 ≤ (cap : Int) := by omega
      have h0k : (0 : Int) ≤ (k : Int) + 1 := by omega
      have hwk : IntKind.i64.wrap ((k : Int) + 1) = (k : Int) + 1 := by simp [IntKind.wrap, IntKind.bits, IntKind.signed]; omega
      have hT := fun (W : World) (hW : Ext wr W) => turned_any (.slice a1 n1 c1) rule W (Ir.out.ext hW) (by rw [Hr.out]; omega) (by rw [Hr.out]; omega)
      rw [Hr.out] at hT
      obtain ⟨z, ez⟩ : ∃ z, (pol p rule * pol p s).co k = z := ⟨_, rfl⟩
      have hz := Ser.co_range (pol p rule * pol p s) hp2.1 k
      rw [ez] at hz
      have hB := fun (W : World) (g gc : Nat) (hW : Ext wr W) (q1 : n1 ≤ gc) (q2 : gc ≤ 9223372036854775807) (q3 : WRow W g 0 rule.reverse) => breach_any p (.slice a (k + 1) cap) (.slice (some ⟨g, 0, none⟩) n1 gc) (s.take (k + 1)) rule W Hp.out
        ((Hv.out.ext (hx.trans hW)).take' (k + 1) (by rw [Hn.out]; omega)) (q3.ints' (by rw [List.length_reverse]; exact Hr.out) q1 q2) (Hs.out.take _) HI.out.r1 (by rw [Hr.out]; omega) (by rw [Hr.out, List.length_take, Hn.out]; omega)
      have hval : (pol p rule * pol p (s.take (k + 1))).co ((s.take (k + 1)).length - 1) = z := by
        rw [show (s.take (k + 1)).length - 1 = k by rw [List.length_take, Hn.out]; omega, ← ez]
        exact Ser.mul_co_congr fun i hi => pol_take_co s (by omega)
      rw [hval] at hB
      have HT := hid hT; have HB := hid hB; have Ez := hid ez
      clear hT hB hval ez
      go_wp2_with fail
      go_region_held3 (fun w' => True) (trivial)
        ((first | (go_at_call 103; refine (HT.out _ ((Ext.refl wr).drew)).mono ?_; rintro _ w5 ⟨gg, gc, rfl, q1, q2, q3, q4, x5⟩) | (go_at_call 102; refine (HB.out _ gg gc (Ext.trans ((Ext.refl wr).drew) x5) q1 q2 q4).mono ?_; rintro _ w6 ⟨rfl, x6⟩)))
      have e6 : Ext wr w6 := (((Ext.refl wr).drew).trans x5).trans x6.ext
      have y6 : Ext w w6 := hx.trans e6
      clear x5 x6 q4
      by_cases hz0 : z = 0
      · have b1 : (z == 0) = true := by simp [hz0]
        have HI2 := hid (HI.out.stay (by rw [Ez.out]; exact hz0))
        clear hz0
        go_wp2_with fail
        go_roundw
        case rel => exact ⟨k + 1, n1, n2, c1, c2, a1, a2, rule, older, d, by go_num, rfl, rfl, rfl, Hr, Ho, g1, by omega, g3, by omega, by omega, g6, g7, hid (Ir.out.ext e6), hid (Io.out.ext e6), HI2, y6⟩
        case measure => simp [intOf]; omega
      · have b1 : (z == 0) = false := by simp [hz0]
        have Hz := hid hz0
        clear hz0
        obtain ⟨U, hU⟩ : ∃ U, unitB p d = U := ⟨_, rfl⟩
        cases U with
        | false =>
          have HU := hid hU
          clear hU
          go_wp2_with fail
          refine (div_zero p z d w6 Hp.out hz.1 hz.2 (by omega) g7 HU.out).mono ?_
          rintro _ w7 ⟨rfl, x7⟩
          go_wp2_with fail
          go_ret2
          exact .inr ⟨d, rfl, y6.trans x7, g6, g7, HU.out⟩
        | true =>
          have hiv := unit_inv p d hp2.1 (by omega) hU
          obtain ⟨q, eq, q0, q01⟩ := name_mod (p := p) (z * minv p d) hp2.1
          have hqd : q * d % p = z := by rw [← eq, mm_l, Int.mul_assoc, Int.mul_comm _ d, ← mm_r, hiv, Int.mul_one]; exact mod_small hz.1 hz.2
          obtain ⟨m, hm⟩ : ∃ m, k + 3 - n1 - n2 = m := ⟨_, rfl⟩
          have hmi : (k : Int) + 3 - (n1 : Int) - (n2 : Int) = (m : Int) := by omega
          have hst := HI.out.step hp2.1 Ez.out Hz.out hqd
          rw [Hr.out, Ho.out, hm] at hst
          have hnl := mendL_len (p := p) rule older q m
          rw [Hr.out, Ho.out] at hnl
          have hmb : n1 ≤ max n1 (m + n2) ∧ max n1 (m + n2) ≤ k + 2 ∧ (n1 < max n1 (m + n2) → max n1 (m + n2) + n1 ≤ k + 3) ∧ (max n1 (m + n2) ≤ n1 → max n1 (m + n2) = n1) := by omega
          have Eq := hid eq; have HU := hid hU
          have HM := hid (fun W (hW : Ext wr W) => mended_any p q m (.slice a1 n1 c1) (.slice a2 n2 c2) rule older W Hp.out (Ir.out.ext hW) (Io.out.ext hW) HI.out.r1 HI.out.o1 q0 q01 (by rw [Hr.out, Ho.out]; omega) (by rw [Ho.out]; omega))
          clear eq hU hiv hqd hm
          obtain ⟨next, hnx⟩ : ∃ next, mendL p rule older q m = next := ⟨_, rfl⟩
          rw [hnx] at hst hnl HM
          obtain ⟨nn, hnn⟩ : ∃ nn, max n1 (m + n2) = nn := ⟨_, rfl⟩
          rw [hnn] at hnl hmb
          rw [hnl] at hst
          obtain ⟨m1, m2, m3, m4⟩ := hmb
          have Hst := hid hst; have Hnl := hid hnl
          clear hnx hnn hst hnl
          go_wp2_with fail
          refine (div_as p z d q w6 Hp.out hz.1 hz.2 (by omega) g7 HU.out Eq.out).mono ?_
          rintro _ w7 ⟨rfl, x7⟩
          have e7 : Ext wr w7 := e6.trans x7
          go_wp2_with fail
          refine (HM.out w7 e7).mono ?_
          rintro _ w8 ⟨v8, rfl, i8, x8⟩
          have e8 : Ext wr w8 := e7.trans x8
          have I8 := hid i8
          obtain ⟨a8, c8, rfl, _, _, j3⟩ := i8
          clear j3
          have hl8 := Hnl.out
          rw [hl8] at I8 ⊢
          by_cases hg : n1 < nn
          · have m3' := m3 hg
            have hs8 := hid (Hst.out.1 hg)
            clear m3 m4
            go_wp2_with fail
            go_roundw
            case rel => exact ⟨k + 1, nn, n1, c8, c1, a8, a1, next, rule, z, by go_num, rfl, rfl, rfl, Hnl, Hr, by omega, by omega, g1, by omega, by omega, by have := Hz.out; omega, hz.2, I8, hid (Ir.out.ext e8), hs8, hx.trans e8⟩
            case measure => simp [intOf]; omega
          · have hs8 := hid (Hst.out.2 (by omega))
            have m4' := m4 (by omega)
            clear m3 m4
            subst m4'
            go_wp2_with fail
            go_roundw
            case rel => exact ⟨k + 1, nn, n2, c8, c2, a8, a2, next, older, d, by go_num, rfl, rfl, rfl, Hnl, Ho, by omega, by omega, g3, by omega, by omega, g6, g7, I8, hid (Io.out.ext e8), hs8, hx.trans e8⟩
            case measure => simp [intOf]; omega
    · obtain rfl : k = n := by omega
      go_wp2_with fail
      go_ret2
      refine .inl ⟨_, rule, rfl, Ir.out, hx, ?_⟩
      have r := HI.out
      obtain ⟨nb, hma, _⟩ := r.ma
      rw [← Hn.out] at hma
      exact ⟨(ruleB_iff (r.r1.u64 hp2.2)).2 ⟨Hp.out, r.r1, by rw [Hr.out]; omega, by rw [Hr.out]; omega, r.r2⟩, r.r1, by rw [Hr.out]; omega, by rw [Hr.out, Hn.out]; omega, hma.ob, hma.least⟩
end Go.Proofs.Ytfpmcajndgkgeaa
/- Shortest rules of rows that are cut, scaled, moved on or added. -/
namespace Go.Proofs.Ytfpmcajndgkgeaa
open Go.RowKit
variable {p : Int}

/-- what Rule answers, over a prime -/
def RetR (p : Int) (s : List Int) (w : World) (e : Ending) (w' : World) : Prop :=
  ∃ a cap n c, e = .returned (.tuple #[.slice a n cap, .int .i64 0]) ∧ Hid (c.length = n) ∧ Hid (Ints .u64 w' (.slice a n cap) c) ∧ Ext w w' ∧ Hid (RuleIs p s c)
theorem sRule_p (p : Int) (v : Value) (s : List Int) (w : World) (hp : rightB p = true) (hF : Fld p) (hv : Ints .u64 w v s) (hs : Rng p s) (hl : s.length ≤ 256) :
    Calls Try.prog 48 #[.int .u64 p, v] w (RetR p s w) := by
  refine (sRule p v s w hp hv hs hl).mono ?_
  rintro e w' (⟨v, c, rfl, h1, h2, h3⟩ | ⟨d, rfl, h2, h3, h4, h5⟩)
  · have h1' := h1
    obtain ⟨a, cap, rfl, _⟩ := h1
    exact ⟨a, cap, _, c, rfl, rfl, h1', h2, h3⟩
  · rw [hF d h3 h4] at h5; cases h5

theorem ruleB_iff' {c : List Int} (h : ruleB p c = true) : rightB p = true ∧ 0 < c.length ∧ c.length < 258 ∧ c.getD 0 0 = 1 := by
  unfold ruleB at h
  simp only [Bool.and_eq_true, decide_eq_true_eq] at h
  exact ⟨(hasB_true h.2.2.1).1, h.1, h.2.1, h.2.2.2⟩
theorem RuleIs.cut {s c d : List Int} {k : Nat} (h : RuleIs p s c) (h' : RuleIs p (s.take k) d) (hk : k ≤ s.length) : d.length ≤ c.length := by
  obtain ⟨_, _, c1, _, c3, c4⟩ := h
  obtain ⟨_, _, d1, _, d3, d4⟩ := h'
  have hl : (s.take k).length = k := by rw [List.length_take]; omega
  rw [hl] at d3 d4
  have := d4 (pol p c) (c.length - 1) ((c3.less hk).congr fun i hi => (pol_take_co s hi).symm)
  omega
theorem RuleIs.nought {n : Nat} {z : List Int} (hp : 2 ≤ p) (h : RuleIs p (List.replicate n 0) z) : z.length = 1 := by
  obtain ⟨_, _, d1, _, d3, d4⟩ := h
  have := d4 1 0 ⟨fun k hk => by rw [← Ser.C_one, Ser.C_co, if_neg (by omega)], by rw [← Ser.C_one, Ser.C_co, if_pos rfl]; exact mod_small (by omega) (by omega), fun i h1 h2 => by rw [Ser.one_mul, pol_co, replicate_get, Int.zero_emod]⟩
  omega
theorem Ob.scale {s c : Ser p} {l n : Nat} (x : Int) (h : Ob s c l n) : Ob (Ser.C p x * s) c l n :=
  ⟨h.low, h.one, fun i h1 h2 => by rw [Ser.mul_left_comm, Ser.C_mul_co, h.obe i h1 h2]; simp⟩
theorem Ob.unscale {s c : Ser p} {l n : Nat} {x y : Int} (hp : 2 ≤ p) (hxy : x * y % p = 1) (h : Ob (Ser.C p x * s) c l n) : Ob s c l n := by
  have h2 := h.scale y
  rw [← Ser.mul_assoc, Ser.C_mul, Ser.C_congr (show y * x % p = 1 % p by rw [Int.mul_comm, hxy]; exact (mod_small (by omega) (by omega)).symm), Ser.C_one, Ser.one_mul] at h2
  exact h2
theorem scale_pol (s : List Int) (x : Int) : pol p (s.map fun y => y * x % p) = Ser.C p x * pol p s := Ser.ext_ fun k => by
  rw [pol_co, Ser.C_mul_co, pol_co, mm_r]
  rcases Nat.lt_or_ge k s.length with h | h
  · have : (s.map fun y => y * x % p).getD k 0 = s.getD k 0 * x % p := by simp [List.getD, h]
    rw [this, Int.emod_emod_of_dvd _ (Int.dvd_refl _), Int.mul_comm]
  · rw [getD_over (by simpa using h), getD_over h]; simp
theorem RuleIs.scaled {s c u : List Int} {x y : Int} (hp : 2 ≤ p) (hxy : x * y % p = 1) (hs : Rng p s) (h : RuleIs p s c) (h' : RuleIs p (s.map fun z => z * x % p) u) :
    u.length = c.length ∧ obeysB p (s.map fun z => z * x % p) c = true ∧ obeysB p s u = true := by
  obtain ⟨c0, cr, c1, _, c3, c4⟩ := h
  obtain ⟨d0, dr, d1, _, d3, d4⟩ := h'
  have hr := (rightB_true ((ruleB_iff' c0).1)).2
  rw [List.length_map, scale_pol] at d3 d4
  have e1 := d4 _ _ (c3.scale x)
  have e2 := c4 _ _ (d3.unscale hp hxy)
  have ht : Rng p (s.map fun z => z * x % p) := fun y hy => by
    obtain ⟨z, _, rfl⟩ := List.mem_map.1 hy
    exact mod_range _ hp
  refine ⟨by omega, (obeysB_iff (ht.u64 hr) (cr.u64 hr)).2 ⟨c0, ht, ?_⟩, (obeysB_iff (hs.u64 hr) (dr.u64 hr)).2 ⟨d0, hs, d3.unscale hp hxy⟩⟩
  rw [List.length_map, scale_pol]
  exact c3.scale x
theorem Ob.tail {s s' c : Ser p} {l n : Nat} (hs : ∀ i, s'.co i = s.co (i + 1)) (h : Ob s c l (n + 1)) : Ob s' c l n :=
  ⟨h.low, h.one, fun i h1 h2 => by
    rw [← h.obe (i + 1) (by omega) (by omega), Ser.mul_co, Ser.mul_co, cv, cv, show ∀ f : Nat → Int, sm (i + 1 + 1) f = sm (i + 1) f + f (i + 1) from fun _ => rfl]
    rw [h.low (i + 1) (by omega), Int.zero_mul, Int.add_zero]
    congr 1
    exact sm_congr fun j hj => by rw [hs, show i + 1 - j = i - j + 1 by omega]⟩
theorem RuleIs.tail {s a b : List Int} (hs : 0 < s.length) (h : RuleIs p s a) (h' : RuleIs p (s.drop 1) b) : b.length ≤ a.length := by
  obtain ⟨_, _, c1, _, c3, c4⟩ := h
  obtain ⟨_, _, d1, _, d3, d4⟩ := h'
  have hl : (s.drop 1).length = s.length - 1 := by simp
  rw [hl] at d4
  have := d4 (pol p a) (a.length - 1) (Ob.tail (s := pol p s) (fun i => by rw [pol_co, pol_co, drop_get, Nat.add_comm]) (by rw [show s.length - 1 + 1 = s.length by omega]; exact c3))
  omega
theorem mul_zero_at {b y : Ser p} {m i : Nat} (hb : b.low (m + 1)) (hy : ∀ k, i ≤ k + m → k ≤ i → y.co k = 0) : (b * y).co i = 0 := by
  rw [Ser.mul_co, cv, sm_zero fun j hj => ?_, Int.zero_emod]
  rcases Nat.lt_or_ge m j with h | h
  · rw [hb j h, Int.zero_mul]
  · rw [hy (i - j) (by omega) (by omega), Int.mul_zero]
theorem Ob.add {s t c d : Ser p} {l m n : Nat} (h : Ob s c l n) (h' : Ob t d m n) : Ob (s + t) (c * d) (l + m) n := by
  refine ⟨(h.low.mul h'.low).mono (by omega), ?_, fun i h1 h2 => ?_⟩
  · rw [Ser.mul_co_low (fun i h1 h2 => by omega), h.one, h'.one, Int.one_mul, ← h.one, Ser.ok]
  · rw [Ser.mul_add, Ser.add_co, Ser.mul_comm c d, Ser.mul_assoc, mul_zero_at h'.low (fun k h3 h4 => h.obe k (by omega) (by omega)), Ser.mul_comm d c, Ser.mul_assoc, mul_zero_at h.low (fun k h3 h4 => h'.obe k (by omega) (by omega))]
    simp
def sumL (p : Int) (s t : List Int) : List Int := (List.range s.length).map fun i => (s.getD i 0 + t.getD i 0) % p
theorem sumL_len (s t : List Int) : (sumL p s t).length = s.length := by simp [sumL]
theorem sumL_rng (hp : 2 ≤ p) (s t : List Int) : Rng p (sumL p s t) := fun x hx => by
  unfold sumL at hx
  obtain ⟨i, _, rfl⟩ := List.mem_map.1 hx
  exact mod_range _ hp
theorem sumL_get (s t : List Int) {k : Nat} (h : k < s.length) : (sumL p s t).getD k 0 = (s.getD k 0 + t.getD k 0) % p := by simp [sumL, List.getD, h]
theorem sumL_pol {s t : List Int} (hl : t.length = s.length) : pol p (sumL p s t) = pol p s + pol p t := Ser.ext_ fun k => by
  rw [Ser.add_co, pol_co, pol_co, pol_co, ma_l, ma_r]
  rcases Nat.lt_or_ge k s.length with h | h
  · rw [sumL_get s t h, Int.emod_emod_of_dvd _ (Int.dvd_refl _)]
  · rw [getD_over (by rw [sumL_len]; exact h), getD_over h, getD_over (by omega)]; simp
theorem RuleIs.sum {s t a b d : List Int} (hl : t.length = s.length) (h : RuleIs p s a) (h' : RuleIs p t b) (h2 : RuleIs p (sumL p s t) d) : d.length + 1 ≤ a.length + b.length := by
  obtain ⟨_, _, c1, _, c3, c4⟩ := h
  obtain ⟨_, _, d1, _, d3, d4⟩ := h'
  obtain ⟨_, _, e1, _, e3, e4⟩ := h2
  rw [sumL_len, sumL_pol hl] at e4
  rw [hl] at d3
  have := e4 _ _ (c3.add d3)
  omega
end Go.Proofs.Ytfpmcajndgkgeaa
/- A row that a rule goes on from its first numbers: the shortest rule of twice as many goes on as it does, and its polynomial divides the other's. -/
namespace Go.Proofs.Ytfpmcajndgkgeaa
open Go.RowKit
variable {p : Int}

/-- a polynomial the other way round -/
def Ser.rev (n : Nat) (a : Ser p) : Ser p := .of p fun k => if k ≤ n then a.co (n - k) else 0
theorem Ser.rev_co (n : Nat) (a : Ser p) (k : Nat) : (Ser.rev n a).co k = if k ≤ n then a.co (n - k) else 0 := by
  show (if k ≤ n then a.co (n - k) else 0) % p = _
  split
  · exact a.ok _
  · simp
theorem Ser.rev_low (n : Nat) (a : Ser p) : (Ser.rev n a).low (n + 1) := fun k hk => by rw [Ser.rev_co, if_neg (by omega)]
theorem Ser.rev_add (n : Nat) (a b : Ser p) : Ser.rev n (a + b) = Ser.rev n a + Ser.rev n b := Ser.ext_ fun k => by
  rw [Ser.rev_co, Ser.add_co, Ser.add_co, Ser.rev_co, Ser.rev_co]
  split
  · rfl
  · simp
theorem Ser.rev_rev {n : Nat} {a : Ser p} (h : a.low (n + 1)) : Ser.rev n (Ser.rev n a) = a := Ser.ext_ fun k => by
  rw [Ser.rev_co]
  split
  · rw [Ser.rev_co, if_pos (by omega), show n - (n - k) = k by omega]
  · rw [h k (by omega)]
theorem Ser.rev_mul {n e : Nat} {a b : Ser p} (ha : a.low (n + 1)) (hb : b.low (e + 1)) : Ser.rev (n + e) (a * b) = Ser.rev n a * Ser.rev e b := Ser.ext_ fun k => by
  rw [Ser.rev_co]
  split
  · rename_i hk
    obtain ⟨c, hc⟩ : ∃ c, min n (n + e - k) - (n - k) + 1 = c := ⟨_, rfl⟩
    rw [Ser.mul_co, Ser.mul_co, cv, cv,
      sm_piece (n - k) c (by omega) (fun i hi => by rw [hb _ (by omega), Int.mul_zero]) (fun i h1 h2 => by rw [ha _ (by omega), Int.zero_mul]),
      sm_piece (k - e) c (n := k + 1) (by omega) (fun i hi => by rw [Ser.rev_low e b _ (by omega), Int.mul_zero]) (fun i h1 h2 => by rw [Ser.rev_low n a _ (by omega), Int.zero_mul]), sm_rev]
    congr 1
    refine sm_congr fun i hi => ?_
    rw [Ser.rev_co, Ser.rev_co, if_pos (by omega), if_pos (by omega), show n - k + (c - 1 - i) = n - (k - e + i) by omega, show n + e - k - (n - (k - e + i)) = e - (k - (k - e + i)) by omega]
  · rw [((Ser.rev_low n a).mul (Ser.rev_low e b)) k (by omega)]
theorem pol_rev {c : List Int} {n : Nat} (h : c.length = n + 1) : pol p c.reverse = Ser.rev n (pol p c) := Ser.ext_ fun k => by
  rw [Ser.rev_co, pol_co]
  split
  · rw [rev_get c (by omega), pol_co, show c.length - 1 - k = n - k by omega]
  · rw [getD_over (by rw [List.length_reverse]; omega), Int.zero_emod]
/-- what is obeyed by a short rule for long, and by another one for longer, is obeyed by the short one, too -/
theorem Ob.follow {s c d : Ser p} {n m K N : Nat} (hc : Ob s c n N) (hd : Ob s d m K) (hK : n + m ≤ K) : ∀ M, M ≤ N → Ob s d m M
  | 0, _ => hd.less (Nat.zero_le _)
  | M + 1, h => by
    rcases Nat.lt_or_ge M K with h1 | h1
    · exact hd.less h1
    · have hM := hc.follow hd hK M (by omega)
      refine hM.next fun _ => ?_
      apply Classical.byContradiction
      intro hne
      have := hM.bound hne (hc.less h)
      omega
/-- nothing is left -/
theorem finds_div {s t c d : Ser p} {C D : Ser p} {qs rs : List Int} {n m N : Nat} (hp : 2 ≤ p) (hF : Fld p) (hC : Ser.rev n C = c) (hD : Ser.rev m D = d) (hDl : D.low (m + 1)) (hmn : m ≤ n) (hq : qs.length ≤ n - m + 1) (hr : Pol p rs) (hrl : rs.length ≤ m)
    (e : C = pol p qs * D + pol p rs) (hc : Ob t c n N) (hd : Ob t d m N) (hst : ∀ i, i < N - n → s.co i = t.co i) (hleast : ∀ c' l', Ob s c' l' (N - n) → m ≤ l') : rs = [] := by
  apply Classical.byContradiction
  intro hne
  have hl := List.length_pos_iff.2 hne
  obtain ⟨r, hr1⟩ : ∃ r, rs.length = r + 1 := ⟨rs.length - 1, by omega⟩
  have hlead := hr.lead_range hne
  have hiv := unit_inv p (lead rs) hp (by omega) (hF _ hlead.1 hlead.2)
  obtain ⟨y, hy⟩ : ∃ y, minv p (lead rs) = y := ⟨_, rfl⟩
  rw [hy] at hiv
  have hql : (pol p qs).low (n - m + 1) := (pol_low qs).mono hq
  -- the rest the other way round
  have e1 : c = Ser.rev (n - m) (pol p qs) * d + Ser.rev n (pol p rs) := by
    rw [← hC, e, Ser.rev_add]
    congr 1
    have := Ser.rev_mul hql hDl
    rw [show n - m + m = n by omega] at this
    rw [this, hD]
  have e2 : Ser.rev n (pol p rs) = Ser.up (n - r) (Ser.rev r (pol p rs)) := Ser.ext_ fun k => by
    rw [Ser.rev_co, Ser.up_co, Ser.rev_co]
    by_cases h1 : k ≤ n
    · rw [if_pos h1]
      by_cases h2 : k < n - r
      · rw [if_pos h2, pol_low rs _ (by omega)]
      · rw [if_neg h2, if_pos (by omega), show r - (k - (n - r)) = n - k by omega]
    · rw [if_neg h1, if_neg (by omega), if_neg (by omega)]
  have e3 : ∀ i, n ≤ i → i < N → (Ser.up (n - r) (Ser.rev r (pol p rs)) * t).co i = 0 := fun i h1 h2 => by
    have h3 := hc.obe i h1 h2
    rw [e1, e2, Ser.add_mul, Ser.add_co, Ser.mul_assoc, mul_zero_at (Ser.rev_low _ _) (fun k h4 h5 => hd.obe k (by omega) (by omega)), Int.zero_add, Ser.ok] at h3
    exact h3
  have hob : Ob t (Ser.C p y * Ser.rev r (pol p rs)) r (N - n) := by
    refine ⟨((Ser.low_C y).mul (Ser.rev_low r _)).mono (by omega), ?_, fun i h1 h2 => ?_⟩
    · rw [Ser.C_mul_co, Ser.rev_co, if_pos (Nat.zero_le _), Nat.sub_zero, hr.rng.co, Int.mul_comm]
      have : rs.getD r 0 = lead rs := by unfold lead; rw [hr1]; rfl
      rw [this, hiv]
    · have h3 := e3 (i + (n - r)) (by omega) (by omega)
      rw [Ser.up_mul, Ser.up_co, if_neg (by omega), show i + (n - r) - (n - r) = i by omega] at h3
      rw [Ser.mul_assoc, Ser.C_mul_co, h3]; simp
  have := hleast _ _ (hob.congr fun i hi => (hst i hi).symm)
  omega

/-- what a rule c of length n goes on from n numbers is known by 2 n of them -/
theorem finds {first c d : List Int} {n : Nat} (hp : 2 ≤ p) (hf : Rng p first) (hfl : first.length = n) (hcr : Rng p c) (hc0 : c.getD 0 0 = 1) (hcl : c.length = n + 1) (h : RuleIs p (onL p c first n) d) :
    d.length ≤ c.length ∧ onL p c first (n + 2 * n) = onL p d (onL p c first n) (2 * n) ∧ Ob (pol p (onL p c first (n + 2 * n))) (pol p c) n (4 * n) ∧ Ob (pol p (onL p c first (n + 2 * n))) (pol p d) (d.length - 1) (4 * n) ∧
    ∀ i, i < 2 * n → (pol p (onL p c first n)).co i = (pol p (onL p c first (n + 2 * n))).co i := by
  have c1 : (pol p c).co 0 = 1 := by rw [hcr.co]; exact hc0
  obtain ⟨h1, h2, h3, h4, h5, h6⟩ := h
  have hsl := onL_len (p := p) c first n
  have htl := onL_len (p := p) c first (n + 2 * n)
  have hob1 : Ob (pol p (onL p c first n)) (pol p c) n (2 * n) := ⟨(pol_low c).mono (by omega), c1, fun i h1 h2 => onL_obe c1 n i (by omega) (by omega)⟩
  have hob2 : Ob (pol p (onL p c first (n + 2 * n))) (pol p c) n (4 * n) := ⟨(pol_low c).mono (by omega), c1, fun i h1 h2 => onL_obe c1 _ i (by omega) (by omega)⟩
  rw [hsl, hfl, show n + n = 2 * n by omega] at h5 h6
  have hm := h6 _ _ hob1
  have hst : ∀ i, i < 2 * n → (onL p c first (n + 2 * n)).getD i 0 = (onL p c first n).getD i 0 := fun i hi => by
    rw [← onL_onL c first n (2 * n)]
    exact onL_get c _ (by omega)
  have hob3 : Ob (pol p (onL p c first (n + 2 * n))) (pol p d) (d.length - 1) (2 * n) := h5.congr fun i hi => by rw [pol_co, pol_co, hst i hi]
  have hob4 := hob2.follow hob3 (by omega) (4 * n) (Nat.le_refl _)
  refine ⟨by omega, ?_, hob2, hob4, fun i hi => by rw [pol_co, pol_co, hst i hi]⟩
  exact onL_unique hp hob4.one (2 * n) _ (onL_rng hp hf _) (by rw [htl, hsl]; omega) (fun j hj => hst j (by omega)) (fun i h7 h8 => hob4.obe i (by omega) (by omega))
end Go.Proofs.Ytfpmcajndgkgeaa
