/- Euclid's rule over polynomials. -/
import Derived.Test.YtgeinhlhhlmciaaDiv
import Derived.Maps.AppendAt
namespace Go.Proofs.Ytgeinhlhhlmciaa
open Go.RowKit Go.Maps

/-- every number but 0 has an inverse -/
def Fld (p : Int) : Prop := ∀ a, 0 < a → a < p → unitB p a = true
theorem Fld.unit_lead {p : Int} (h : Fld p) {xs : List Int} (hx : Pol p xs) (h0 : xs ≠ []) : unitB p (lead xs) = true := h _ (hx.lead_range h0).1 (hx.lead_range h0).2

/-- rests, each by the two ahead of it -/
structure Rems (p : Int) (R : Nat → List Int) (Q : Nat → List Int) (k : Nat) : Prop where
  isp : ∀ i, i ≤ k + 1 → Pol p (R i)
  len : ∀ i, i ≤ k + 1 → (R i).length ≤ 512
  quo : ∀ i, i < k → Pol p (Q i)
  eqn : ∀ i, i < k → pol p (R i) = pol p (Q i) * pol p (R (i + 1)) + pol p (R (i + 2))
  dec : ∀ i, i < k → (R (i + 2)).length < (R (i + 1)).length
  qln : ∀ i, i < k → (Q i).length = (R i).length + 1 - (R (i + 1)).length
/-- a quotient as it lies in memory -/
def qAt (qs : List (Value × List Int)) (i : Nat) : List Int := (qs.getD i (.bool false, [])).2
theorem qAt_snoc (qs : List (Value × List Int)) (x : Value × List Int) (i : Nat) : qAt (qs ++ [x]) i = if i < qs.length then qAt qs i else if i = qs.length then x.2 else [] := by
  unfold qAt
  simp only [List.getD, List.getElem?_append]
  split
  · rfl
  · rename_i h
    split
    · rename_i e; rw [e]; simp
    · rename_i e
      rw [List.getElem?_eq_none (by simp; omega)]; rfl
theorem Rems.step {p : Int} {R : Nat → List Int} {qs : List (Value × List Int)} {k : Nat} (hk : qs.length = k) (h : Rems p R (qAt qs) k) {v : Value} {q r : List Int} (hq : Pol p q) (hr : Pol p r) (hrl : r.length ≤ 512) (he : pol p (R k) = pol p q * pol p (R (k + 1)) + pol p r)
    (hd : r.length < (R (k + 1)).length) (hl : q.length = (R k).length + 1 - (R (k + 1)).length) : Rems p (fun i => if i = k + 2 then r else R i) (qAt (qs ++ [(v, q)])) (k + 1) := by
  subst hk
  refine ⟨fun i hi => ?_, fun i hi => ?_, fun i hi => ?_, fun i hi => ?_, fun i hi => ?_, fun i hi => ?_⟩
  · split
    · exact hr
    · exact h.isp i (by omega)
  · split
    · exact hrl
    · exact h.len i (by omega)
  · by_cases e : i < qs.length
    · rw [qAt_snoc, if_pos e]; exact h.quo i e
    · obtain rfl : i = qs.length := by omega
      rw [qAt_snoc, if_neg e, if_pos rfl]; exact hq
  · have e0 : ¬ i = qs.length + 2 := by omega
    have e1 : ¬ i + 1 = qs.length + 2 := by omega
    rw [if_neg e0, if_neg e1]
    by_cases e : i < qs.length
    · rw [qAt_snoc, if_pos e, if_neg (show ¬ i + 2 = qs.length + 2 by omega)]; exact h.eqn i e
    · obtain rfl : i = qs.length := by omega
      rw [qAt_snoc, if_neg e, if_pos rfl, if_pos rfl]; exact he
  · have e1 : ¬ i + 1 = qs.length + 2 := by omega
    rw [if_neg e1]
    by_cases e : i < qs.length
    · rw [if_neg (show ¬ i + 2 = qs.length + 2 by omega)]; exact h.dec i e
    · obtain rfl : i = qs.length := by omega
      rw [if_pos rfl]; exact hd
  · have e0 : ¬ i = qs.length + 2 := by omega
    have e1 : ¬ i + 1 = qs.length + 2 := by omega
    rw [if_neg e0, if_neg e1]
    by_cases e : i < qs.length
    · rw [qAt_snoc, if_pos e]; exact h.qln i e
    · obtain rfl : i = qs.length := by omega
      rw [qAt_snoc, if_neg e, if_pos rfl]; exact hl

/-- a slice apart from a block -/
def Apart (v : Value) (g : Option Nat) : Prop := ∀ b off n c, v = .slice (some ⟨b, off, none⟩) n c → 0 < n → some b ≠ g
theorem Ints.grown {k : IntKind} {w w' : World} {row : Option Nat} {v : Value} {xs : List Int} (h : Ints k w v xs) (hg : w.grownBy w' row) (ha : Apart v row) : Ints k w' v xs := by
  obtain ⟨a, cap, rfl, h1, h2, h3⟩ := h
  refine ⟨a, cap, rfl, h1, h2, fun hp => ?_⟩
  obtain ⟨b, off, rfl, hb, hc⟩ := h3 hp
  have e := hg.block b hb (ha b off _ _ rfl hp)
  refine ⟨b, off, rfl, Nat.lt_of_lt_of_le hb hg.size, fun j hj => ?_⟩
  rw [← hc j hj]
  unfold World.cell?
  rw [show w'.heap[(⟨b, off + j, none⟩ : Addr).block]? = w.heap[(⟨b, off + j, none⟩ : Addr).block]? from e]
theorem Ints.apart {k : IntKind} {w : World} {v : Value} {xs : List Int} (h : Ints k w v xs) {g : Option Nat} (hg : ∀ j, g = some j → w.heap.size ≤ j) : Apart v g := by
  obtain ⟨a, cap, rfl, h1, h2, h3⟩ := h
  intro b off n c e hn e2
  injection e with ea en _
  obtain ⟨b', off', ea', hb, _⟩ := h3 (by omega)
  rw [ea'] at ea
  injection ea with ea
  injection ea with ea
  have := hg b e2.symm
  omega
theorem FreshV.apart {w : World} {v : Value} (h : FreshV w v) {g : Option Nat} (hg : ∀ j, g = some j → j < w.heap.size) : Apart v g := fun b off n c e hn e2 => by
  have h1 := h b off n c e hn
  have h2 := hg b e2.symm
  omega

theorem info_nums : (Try.prog.info? 23).map (fun i => (i.zero, i.size, i.bytes)) = some (some (.slice none 0 0), 1, 24) := by kernel_rfl

/-- what Euclid's rule answers -/
def RetEuc (p : Int) (xs ys : List Int) (w : World) (e : Ending) (w' : World) : Prop := ∃ vq ve qs R, e = .returned (.tuple #[vq, ve, .int .i64 0]) ∧ w'.ownsRow w.heap.size 23 1 vq qs.length (qs.map (·.1)) ∧ (∀ x ∈ qs, Ints .u64 w' x.1 x.2) ∧
  Ints .u64 w' ve (R qs.length) ∧ R (qs.length + 1) = [] ∧ Rems p R (qAt qs) qs.length ∧ R 0 = xs ∧ R 1 = ys ∧ qs.length ≤ 512 ∧ Ext w w'

set_option maxRecDepth 100000 in
set_option maxHeartbeats 2000000 in
theorem euclid_yes (p : Int) (v u : Value) (xs ys : List Int) (w : World) (hp : rightB p = true) (hF : Fld p) (hv : Ints .u64 w v xs) (hu : Ints .u64 w u ys) (hx : Pol p xs) (hy : Pol p ys) (hl : xs.length ≤ 512 ∧ ys.length ≤ 512) :
    Calls Try.prog 36 #[.int .u64 p, v, u] w (RetEuc p xs ys w) := by
  have c1 := hid (polRight_yes p v xs w hp hv hx hl.1)
  have c2 := hid (polRight_yes p u ys w hp hu hy hl.2)
  have Hv := hid hv; have Hu := hid hu; have Hx := hid hx; have Hy := hid hy; have Hp := hid hp; have HF := hid hF
  obtain ⟨i0, hi, hz0, hz1, hz2⟩ := info_parts info_nums
  clear hp hv hu hx hy hF
  go_enter Try.func36, Try.ntmps36
  go_wp2_with (first
    | (go_at_call_of 11 v; refine c1.out.mono ?_; rintro _ _ ⟨rfl, rfl⟩)
    | (go_at_call_of 11 u; refine c2.out.mono ?_; rintro _ _ ⟨rfl, rfl⟩)
    | fail)
  go_loopw [1, 2, 9] (fun va vb vq wr => ∃ (k : Nat) (R : Nat → List Int) (qs : List (Value × List Int)), qs.length = k ∧ Ints .u64 wr va (R k) ∧ Ints .u64 wr vb (R (k + 1)) ∧ wr.ownsRow w.heap.size 23 1 vq k (qs.map (·.1)) ∧ Hid (∀ x ∈ qs, Ints .u64 wr x.1 x.2) ∧
    Hid (Rems p R (qAt qs) k) ∧ Hid (R 0 = xs ∧ R 1 = ys) ∧ (R (k + 1)).length + k ≤ 512 ∧ Hid (Apart va vq.ownBlock ∧ Apart vb vq.ownBlock ∧ ∀ x ∈ qs, Apart x.1 vq.ownBlock) ∧ Ext w wr) (fun _ vb _ _ => match vb with | .slice _ n _ => n | _ => 0)
  case atStart =>
    exact ⟨0, fun i => if i = 0 then xs else ys, [], rfl, Hv.out, Hu.out, World.ownsRow_nil _ _ _ _, hid (by simp), hid ⟨fun i _ => by split; exact Hx.out; exact Hy.out, fun i _ => by split; exact hl.1; exact hl.2, fun i h => by omega, fun i h => by omega, fun i h => by omega, fun i h => by omega⟩, hid ⟨rfl, rfl⟩, by simpa using hl.2, hid ⟨fun _ _ _ _ _ _ => by simp [Value.ownBlock], fun _ _ _ _ _ _ => by simp [Value.ownBlock], by simp⟩, (by repeat (first | exact Ext.refl _ | assumption | refine Ext.drew ?_ | refine Ext.drewN ?_ _ | refine Ext.alloc ?_ _ | refine Ext.trans ?_ (by assumption)))⟩
  case round =>
    obtain ⟨k, R, qs, hqk, ha, hb, hown, hqi, hrem, h01, hlen, hap, hxw⟩ := hrel
    have Ha := hid ha; have Hb := hid hb; have Hown := hid hown
    obtain ⟨a, cap, rfl, k1, k2, k3⟩ := ha
    obtain ⟨b, capb, rfl, m1, m2, m3⟩ := hb
    obtain ⟨lb, hlb⟩ : ∃ lb, (R (k + 1)).length = lb := ⟨_, rfl⟩
    have Hlb := hid hlb
    rw [hlb] at hlen m1
    rw [hlb] at Hb
    clear k3 m3 hown
    rcases Nat.eq_zero_or_pos lb with h0 | h0
    · obtain rfl : lb = 0 := h0
      have hR : Hid (R (k + 1) = []) := hid (List.eq_nil_of_length_eq_zero hlb)
      rw [hlb]
      clear hlb
      go_wp2_with fail
      go_ret3
      subst hqk
      exact ⟨_, _, qs, R, rfl, Hown.out, hqi.out, Ha.out, hR.out, hrem.out, h01.out.1, h01.out.2, by omega, hxw⟩
    · rw [hlb] at hap ⊢
      obtain ⟨ob, hob9⟩ : ∃ ob, u9.ownBlock = ob := ⟨_, rfl⟩
      rw [hob9] at hap
      have hob : Hid (∀ j, ob = some j → w.heap.size ≤ j ∧ j < wr.heap.size) := hid (fun j e => Hown.out.lt j (hob9.trans e))
      have Hob9 := hid hob9
      clear hob9
      have hne : R (k + 1) ≠ [] := fun e => by rw [e] at hlb; simp at hlb; omega
      have cd := hid (pDiv_yes p _ _ (R k) (R (k + 1)) _ Hp.out Ha.out Hb.out (hrem.out.isp k (by omega)) (hrem.out.isp (k + 1) (by omega)) ⟨hrem.out.len k (by omega), hrem.out.len (k + 1) (by omega)⟩ hne (HF.out.unit_lead (hrem.out.isp (k + 1) (by omega)) hne))
      clear hlb hne
      go_wp2_with fail
      refine cd.out.mono ?_
      rintro _ w1 ⟨v1, v2, q, r, rfl, d1, d2, d3, d4, d5, d6, d7, d8, d9, d10⟩
      have hxw1 := hxw.trans d8
      have hsz1 := hxw1.size
      have Hown1 := hid (ownsRow_ext Hown.out d8)
      have D1 := hid d1; have D2 := hid d2; have D3 := hid d3; have D4 := hid d4; have D5 := hid d5
      have hql : q.length ≤ 513 := by have := hrem.out.len k (by omega); omega
      obtain ⟨va1, vc1, rfl, n1, n2, n3⟩ := d1
      have hrl : r.length < lb := by have := Hlb.out; omega
      have F1 := hid d9; have F2 := hid d10; have Hd6 := hid d6; have Hd7 := hid d7
      clear n3 d2 d3 d4 d5 cd d9 d10 d6 d7
      go_wp2_with (first
        | (at_builtin; refine wpList_append_own_at _ rfl _ _ 51 rfl w.heap.size 23 i0 (.slice none 0 0) 1 24 Try.underlying51 hi hz0 hz1 hz2 rfl (by decide) _ _ _ rfl (Hown1.out.alloc _) ⟨w1.heap.size, 0, none⟩ 1 1 [.slice va1 q.length vc1] rfl rfl (cells_new _ _ _ rfl) (by simp [Value.oneCell']) (by simp only [maxLen]; omega) (by omega) (by simp; omega) ?_; intro v3 w2 hown2 hgrow2 _ hat2)
        | fail)
      have hsw := d8.size
      replace hgrow2 : (w1.alloc (.cells #[.slice va1 q.length vc1] 23)).grownBy w2 ob := by rw [← Hob9.out]; exact hgrow2
      replace hat2 : v3.ownBlock = ob ∨ v3.ownBlock = some (w1.heap.size + 1) := by
        rw [← Hob9.out]
        rcases hat2 with e | e
        · exact .inl e
        · exact .inr (by simpa using e)
      have hfresh : ∀ j, v3.ownBlock = some j → v3.ownBlock = some (w1.heap.size + 1) → w1.heap.size ≤ j := fun j e e2 => by rw [e2] at e; injection e; omega
      have ha1 := Ha.out.ext d8
      have hb1 := Hb.out.ext d8
      have hx1 := hid (fun x hx => (hqi.out x hx).ext d8)
      obtain ⟨hapa, hapb, hapq⟩ := hap.out
      have hap1 : Apart (Value.slice va1 q.length vc1) _ := F1.out.apart (fun j e => (hob.out j e).2)
      have hap2 : Apart v2 _ := F2.out.apart (fun j e => (hob.out j e).2)
      have hw2x : Ext w w2 := (hxw1.alloc _).grown hgrow2 (fun j e => (hob.out j e).1)
      have hib := (hb1.alloc (.cells #[.slice va1 q.length vc1] 23)).grown hgrow2 hapb
      have hir := (D2.out.alloc (.cells #[.slice va1 q.length vc1] 23)).grown hgrow2 hap2
      have hiq := (D1.out.alloc (.cells #[.slice va1 q.length vc1] 23)).grown hgrow2 hap1
      have hiqs : Hid (∀ x ∈ qs, Ints .u64 w2 x.1 x.2) := hid (fun x hx => ((hx1.out x hx).alloc (.cells #[.slice va1 q.length vc1] 23)).grown hgrow2 (hapq x hx))
      have hnew : Hid (Apart (.slice b lb capb) v3.ownBlock ∧ Apart v2 v3.ownBlock ∧ ∀ x ∈ qs ++ [(.slice va1 q.length vc1, q)], Apart x.1 v3.ownBlock) := by
        rcases hat2 with e | e
        · rw [e]
          exact hid ⟨hapb, hap2, fun x hx => by
            rcases List.mem_append.1 hx with h | h
            · exact hapq x h
            · obtain rfl := List.mem_singleton.1 h
              exact hap1⟩
        · exact hid ⟨hb1.apart (fun j ej => hfresh j ej e), D2.out.apart (fun j ej => hfresh j ej e), fun x hx => by
            rcases List.mem_append.1 hx with h | h
            · exact (hx1.out x h).apart (fun j ej => hfresh j ej e)
            · obtain rfl := List.mem_singleton.1 h
              exact D1.out.apart (fun j ej => hfresh j ej e)⟩
      have Hib := hid hib; have Hir := hid hir; have Hiq := hid hiq; have Hown2 := hid hown2
      clear hib hir hiq hown2 hapa hapb hapq hap1 hap2 ha1 hb1 hgrow2 hat2 hfresh
      go_wp2_with fail
      go_roundw
      case rel =>
        refine ⟨k + 1, fun i => if i = k + 2 then r else R i, qs ++ [(.slice va1 q.length vc1, q)], by simp [hqk], ?_, ?_, ?_, hid (fun x hx => ?_), hid (Rems.step hqk hrem.out D3.out D4.out (by omega) D5.out (by have := Hd6.out; exact this) Hd7.out), hid ⟨?_, ?_⟩, ?_, hnew, hw2x⟩
        · dsimp only
          rw [if_neg (by omega)]; exact Hib.out
        · dsimp only
          rw [if_pos rfl]; exact Hir.out
        · rw [List.map_append]; exact Hown2.out
        · rcases List.mem_append.1 hx with h | h
          · exact hiqs.out x h
          · obtain rfl := List.mem_singleton.1 h
            exact Hiq.out
        · dsimp only
          rw [if_neg (by omega)]; exact h01.out.1
        · dsimp only
          rw [if_neg (by omega)]; exact h01.out.2
        · dsimp only
          rw [if_pos rfl]; omega
      case measure =>
        obtain ⟨va2, vc2, e, _⟩ := Hir.out
        subst e
        exact hrl
end Go.Proofs.Ytgeinhlhhlmciaa
