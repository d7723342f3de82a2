/- The shortest rule of a row: series.Rule, and the mending of a rule by an older one. -/
import Derived.Test.YtbpbagejblbacaaSerC
import Derived.Deep.RegionHeld3
import Derived.Deep.DrawnRows
namespace Go.Proofs.Ytbpbagejblbacaa
open Go.RowKit

theorem mendL_eq {p : Int} (hp : 2 ≤ p) {rule older l : List Int} {q : Int} {m : Nat} (hr : Rng p rule) (hl : l.length = max rule.length (m + older.length))
    (hg : ∀ t, l.getD t 0 = if m ≤ t ∧ t < m + older.length then (rule.getD t 0 - q * older.getD (t - m) 0) % p else rule.getD t 0) : mendL p rule older q m = l :=
  list_ext (by rw [mendL_len, hl]) fun t _ => by
    rw [mendL_get, hg]
    have hs := hr.getD hp t
    by_cases h1 : t < m
    · rw [if_pos h1, if_neg (by omega), Int.sub_zero]; exact mod_small hs.1 hs.2
    · rw [if_neg h1]
      by_cases h2 : t < m + older.length
      · rw [if_pos (by omega)]
      · rw [if_neg (by omega), getD_over (xs := older) (by omega), Int.mul_zero, Int.sub_zero]; exact mod_small hs.1 hs.2

set_option maxRecDepth 100000 in
set_option maxHeartbeats 1000000 in
theorem mended_any (p q : Int) (m : Nat) (v u : Value) (rule older : List Int) (w : World) (hp : rightB p = true) (hv : Ints .u64 w v rule) (hu : Ints .u64 w u older) (hr : Rng p rule) (ho : Rng p older) (hq0 : 0 ≤ q) (hq : q < p)
    (hl : rule.length ≤ 1000 ∧ older.length ≤ 1000 ∧ m ≤ 1000) (ho1 : 1 ≤ older.length) :
    Calls Try.prog 34 #[.int .u64 p, v, .int .u64 q, u, .int .i64 m] w fun e w' => ∃ v', e = .returned v' ∧ Ints .u64 w' v' (mendL p rule older q m) ∧ Ext w w' := by
  have hp2 := rightB_true hp
  obtain ⟨a, cap, rfl, hc1, hc2, hc⟩ := hv
  obtain ⟨a', cap', rfl, hd1, hd2, hd⟩ := hu
  obtain ⟨b, off, rfl, hb, hcell⟩ := hd (by omega)
  have Hc := hid hc; have Hd := hid hcell; have Hr := hid hr; have Ho := hid ho; have Hp := hid hp
  clear hc hd hp hcell hr ho
  obtain ⟨la, hla⟩ : ∃ la, rule.length = la := ⟨_, rfl⟩
  obtain ⟨lb, hlb⟩ : ∃ lb, older.length = lb := ⟨_, rfl⟩
  obtain ⟨k2, hk2⟩ : ∃ k2, m + lb = k2 := ⟨_, rfl⟩
  have hk2i : (m : Int) + (lb : Int) = (k2 : Int) := by omega
  obtain ⟨n, hn⟩ : ∃ n, max la k2 = n := ⟨_, rfl⟩
  have hcase : (la < n ∧ n = k2) ∨ (k2 ≤ n ∧ n = la) := by omega
  have hsrc : 0 < la → ∃ ad, a = some ad ∧ ∀ j x, (rule.map (Value.int .u64))[j]? = some x → ∀ w', Ext w w' → w'.cell? (ad.add j) = some x := fun h0 => by
    obtain ⟨b, off, rfl, hb, hcell⟩ := Hc.out (by omega)
    refine ⟨_, rfl, fun j x hj w' he => ?_⟩
    have hjl : j < rule.length := by
      rcases Nat.lt_or_ge j rule.length with h | h
      · exact h
      · rw [List.getElem?_eq_none (by simpa using h)] at hj; cases hj
    rw [show ((⟨b, off, none⟩ : Addr).add j) = ⟨b, off + j, none⟩ from Go.WideShapes.add_plain _ _ _, he.cells _ _ hb, hcell j hjl]
    rw [List.getElem?_map, List.getElem?_eq_getElem hjl] at hj
    simp only [Option.map_some, Option.some.injEq] at hj
    rw [← hj]
    simp [List.getD, List.getElem?_eq_getElem hjl]
  have Hsrc := hid hsrc
  clear hsrc
  obtain ⟨cs, hcs⟩ : ∃ cs, rule.map (Value.int .u64) = cs := ⟨_, rfl⟩
  have hcl : cs.length = la := by rw [← hcs, List.length_map, hla]
  have Hone : Hid (∀ x ∈ cs, x.oneCell' = true) := hid (by
    rw [← hcs]
    intro x hx
    obtain ⟨y, _, rfl⟩ := List.mem_map.1 hx
    rfl)
  obtain ⟨cur, hcur⟩ : ∃ cur, (List.replicate n (0 : Int)).map (Value.int .u64) = cur := ⟨_, rfl⟩
  have hcurl : cur.length = n := by rw [← hcur]; simp
  have Hmade : Hid ((madeCells #[Value.int .u64 0] n) = cur.toArray) := hid (by
    rw [← hcur]
    simp [madeCells]
    apply Array.ext
    · simp
    · intro i h1 h2
      simp [Nat.mod_one])
  have Hcs := hid hcs; have Hcur := hid hcur
  rw [hcs] at Hsrc
  have hmk := make_ints (P := Try.prog) 23 22 .u64 8 (by omega) (by kernel_rfl) (by kernel_rfl) n n (Nat.le_refl _) (by omega)
  rw [hla] at hc1 ⊢
  rw [hlb] at hd1 ⊢
  have Hla := hid hla; have Hlb := hid hlb
  rw [hla, hlb] at hl
  rw [hlb] at Hd ho1
  have hmin : cs.length = Nat.min la n := by rw [hcl]; exact (Nat.min_eq_left (by omega)).symm
  have Hmin := hid hmin
  have hnm : n ≤ 10000 := by omega
  have hsz : (Try.prog.info? 22).map (·.size) = some 1 := by kernel_rfl
  have Hn := hid hn; have Hk2 := hid hk2
  rw [Hmade.out] at hmk
  clear hcs hcur hla hlb hmin hn hk2
  rcases hcase with ⟨h1, rfl⟩ | ⟨h1, rfl⟩
  all_goals
    go_enter Try.func34, Try.ntmps34
    go_wp2_with ((with_reducible show wpList _ _ _ _ _ _); refine wpList_copy_splice (o := ⟨some 26, _, _, _, _, _⟩) rfl (.tmp 24) (.tmp 25) 23 23 rfl 22 Try.underlying23 hsz _ _ _ _ _ _ rfl rfl w.heap.size 0 cur 22 (heap_alloc_new w _) cs Hmin.out (fun h => ⟨rfl, by obtain ⟨ad, e, he⟩ := Hsrc.out (by omega); exact ⟨ad, e, fun j x hj => he j x hj _ ((Ext.refl w).alloc _)⟩⟩) (by omega) Hone.out w.heap.size w ((Ext.refl w).alloc _) (Nat.le_refl _) ?_; intro w2 HG2 hB2)
    have hrow : WRow w2 w.heap.size 0 (rule ++ List.replicate (n - rule.length) 0) := WRow.of_blk (t := 22) (rest := []) (by
      have := HG2.out
      rw [← Hcur.out, ← Hcs.out, splice_pad] at this
      rw [List.append_nil]
      exact this)
    have hx0 : Ext w w2 := hB2
    clear HG2
    obtain ⟨g, hg⟩ : ∃ g, w.heap.size = g := ⟨_, rfl⟩
    have hgw : w.heap.size ≤ g := by omega
    rw [hg] at hrow ⊢
    clear hg hB2
    have hpad : (rule ++ List.replicate (n - rule.length) (0 : Int)).length = n := by simp; have := Hla.out; omega
    have Hrow := hid hrow
    have Hpad := hid hpad
    clear hrow hpad
    go_wp2_with fail
    go_loopw [29] (fun i wr => ∃ (k : Nat) (l : List Int), i = .int .i64 k ∧ k ≤ lb ∧ Hid (l.length = n) ∧ Hid (∀ t, l.getD t 0 = if m ≤ t ∧ t < m + k then (rule.getD t 0 - q * older.getD (t - m) 0) % p else rule.getD t 0) ∧ WRow wr g 0 l ∧ Ext w wr) (fun i _ => lb - (intOf i).toNat)
    case atStart => exact ⟨0, _, rfl, Nat.zero_le _, Hpad, hid (fun t => by rw [pad_get, if_neg (by omega)]), Hrow.out, hx0⟩
    case round =>
      obtain ⟨k, l, rfl, hk, hln, hl2, hrw, hxw⟩ := hrel
      clear hx0 Hrow
      have Hrw := hid hrw
      clear hrw
      by_cases hlt : k < lb
      · obtain ⟨K, hK⟩ : ∃ K, m + k = K := ⟨_, rfl⟩
        have hKi : (m : Int) + (k : Int) = (K : Int) := by omega
        have hKn : K < n := by have := Hk2.out; omega
        have g1 := (hxw.cells _ _ hb).trans (Hd.out k hlt)
        have r1 := Ho.out.get (k := k) (by rw [Hlb.out]; exact hlt)
        have r2 := Hr.out.getD hp2.1 K
        have g2 := (Hrw.out.2 K (by rw [hln.out]; omega)).1
        have f2 := (Hrw.out.2 K (by rw [hln.out]; omega)).2
        rw [Nat.zero_add, hl2.out, if_neg (by omega)] at g2
        rw [Nat.zero_add] at f2
        obtain ⟨y, ey⟩ : ∃ y, older.getD k 0 = y := ⟨_, rfl⟩
        obtain ⟨x, ex⟩ : ∃ x, rule.getD K 0 = x := ⟨_, rfl⟩
        rw [ey] at g1 r1; rw [ex] at g2 r2
        obtain ⟨z, ez, z0, z1⟩ := name_mod (p := p) (q * y) hp2.1
        obtain ⟨r, er, r3, r4⟩ := name_mod (p := p) (x - z) hp2.1
        have Ez := hid ez; have Er := hid er; have Ex := hid ex; have Ey := hid ey; have HK := hid hK
        clear ez er ex ey hK
        go_wp2_with fail
        refine (mul_as p q y z _ Hp.out hq0 hq r1.1 r1.2 Ez.out).mono ?_
        rintro _ w3 ⟨rfl, x3⟩
        have g3 := (x3.cells g K (cell_lt g2)).trans g2
        have f3 := ((Hrw.out.ext x3).2 K (by rw [hln.out]; omega)).2
        rw [Nat.zero_add] at f3
        clear g1 g2 f2
        go_wp2_with fail
        refine (sub_as p x z r _ Hp.out r2.1 r2.2 z0 z1 Er.out).mono ?_
        rintro _ w4 ⟨rfl, x4⟩
        have g4 := (x4.cells g K (cell_lt g3)).trans g3
        have f4 := (((Hrw.out.ext x3).ext x4).2 K (by rw [hln.out]; omega)).2
        rw [Nat.zero_add] at f4
        clear g3 f3
        go_wp2_with fail
        go_roundw
        case rel =>
          have hs := ((Hrw.out.ext x3).ext x4).set_ (i := K) (by rw [hln.out]; omega) r
          rw [Nat.zero_add] at hs
          refine ⟨k + 1, l.set K r, by go_num, by omega, hid (by rw [List.length_set]; exact hln.out), hid (fun t => ?_), hs, ((hxw.trans x3).trans x4).setCell (p := ⟨g, K, none⟩) hgw _⟩
          rw [set_get l K t r (by rw [hln.out]; omega), hl2.out]
          have hKo := HK.out
          by_cases e : K = t
          · subst e
            rw [if_pos rfl, if_pos (by omega), Ex.out, show K - m = k by omega, Ey.out, ← Er.out, ← Ez.out, ms_r]
          · rw [if_neg e]
            by_cases e2 : m ≤ t ∧ t < m + k
            · rw [if_pos e2, if_pos (by omega)]
            · rw [if_neg e2, if_neg (by omega)]
        case measure => simp [intOf]; omega
      · obtain rfl : lb = k := by omega
        have hi := hid (Hrw.out.ints' hln.out (Nat.le_refl n) (by omega))
        have he := hid (mendL_eq hp2.1 (older := older) (q := q) (m := m) Hr.out (l := l) (by rw [hln.out, Hlb.out, Hla.out, Hk2.out, Hn.out]) (fun t => by rw [Hlb.out]; exact hl2.out t))
        go_wp2_with fail
        go_ret
        exact ⟨_, rfl, by rw [he.out]; exact hi.out, hxw⟩
end Go.Proofs.Ytbpbagejblbacaa
