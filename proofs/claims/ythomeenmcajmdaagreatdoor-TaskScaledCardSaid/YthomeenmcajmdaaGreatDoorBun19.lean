import Derived.Test.YthomeenmcajmdaaGreatDoorDiv
import Derived.Test.YthomeenmcajmdaaGreatDoorBun03
import Derived.Maps.AppendAt
import Derived.Test.YthomeenmcajmdaaGreatDoorBun18
import Derived.Test.YthomeenmcajmdaaGreatDoorBun16
namespace Go.Proofs.YthomeenmcajmdaaGreatDoor
open Go.RowKit Go.Maps
structure Rems (p : Int) (R : Nat → List Int) (Q : Nat → List Int) (k : Nat) : Prop where
  isp : ∀ i, i ≤ k + 1 → Pol p (R i)
  len : ∀ i, i ≤ k + 1 → (R i).length ≤ 512
  quo : ∀ i, i < k → Pol p (Q i)
  eqn : ∀ i, i < k → pol p (R i) = pol p (Q i) * pol p (R (i + 1)) + pol p (R (i + 2))
  dec : ∀ i, i < k → (R (i + 2)).length < (R (i + 1)).length
  qln : ∀ i, i < k → (Q i).length = (R i).length + 1 - (R (i + 1)).length
def qAt (qs : List (Value × List Int)) (i : Nat) : List Int := (qs.getD i (.bool false, [])).2
theorem qAt_snoc (qs : List (Value × List Int)) (x : Value × List Int) (i : Nat) : qAt (qs ++ [x]) i = if i < qs.length then qAt qs i else if i = qs.length then x.2 else [] := by
  unfold qAt
  simp only [List.getD, List.getElem?_append]
  split
  · rfl
  · rename_i h
    split
    · rename_i e; rw [e]; simp
    · rename_i e
      rw [List.getElem?_eq_none (by simp; omega)]; rfl
theorem Rems.step {p : Int} {R : Nat → List Int} {qs : List (Value × List Int)} {k : Nat} (hk : qs.length = k) (h : Rems p R (qAt qs) k) {v : Value} {q r : List Int} (hq : Pol p q) (hr : Pol p r) (hrl : r.length ≤ 512) (he : pol p (R k) = pol p q * pol p (R (k + 1)) + pol p r)
    (hd : r.length < (R (k + 1)).length) (hl : q.length = (R k).length + 1 - (R (k + 1)).length) : Rems p (fun i => if i = k + 2 then r else R i) (qAt (qs ++ [(v, q)])) (k + 1) := by
  subst hk
  refine ⟨fun i hi => ?_, fun i hi => ?_, fun i hi => ?_, fun i hi => ?_, fun i hi => ?_, fun i hi => ?_⟩
  · split
    · exact hr
    · exact h.isp i (by omega)
  · split
    · exact hrl
    · exact h.len i (by omega)
  · by_cases e : i < qs.length
    · rw [qAt_snoc, if_pos e]; exact h.quo i e
    · obtain rfl : i = qs.length := by omega
      rw [qAt_snoc, if_neg e, if_pos rfl]; exact hq
  · have e0 : ¬ i = qs.length + 2 := by omega
    have e1 : ¬ i + 1 = qs.length + 2 := by omega
    rw [if_neg e0, if_neg e1]
    by_cases e : i < qs.length
    · rw [qAt_snoc, if_pos e, if_neg (show ¬ i + 2 = qs.length + 2 by omega)]; exact h.eqn i e
    · obtain rfl : i = qs.length := by omega
      rw [qAt_snoc, if_neg e, if_pos rfl, if_pos rfl]; exact he
  · have e1 : ¬ i + 1 = qs.length + 2 := by omega
    rw [if_neg e1]
    by_cases e : i < qs.length
    · rw [if_neg (show ¬ i + 2 = qs.length + 2 by omega)]; exact h.dec i e
    · obtain rfl : i = qs.length := by omega
      rw [if_pos rfl]; exact hd
  · have e0 : ¬ i = qs.length + 2 := by omega
    have e1 : ¬ i + 1 = qs.length + 2 := by omega
    rw [if_neg e0, if_neg e1]
    by_cases e : i < qs.length
    · rw [qAt_snoc, if_pos e]; exact h.qln i e
    · obtain rfl : i = qs.length := by omega
      rw [qAt_snoc, if_neg e, if_pos rfl]; exact hl
def Apart (v : Value) (g : Option Nat) : Prop := ∀ b off n c, v = .slice (some ⟨b, off, none⟩) n c → 0 < n → some b ≠ g
theorem Ints.grownA {k : IntKind} {w w' : World} {row : Option Nat} {v : Value} {xs : List Int} (h : Ints k w v xs) (hg : w.grownBy w' row) (ha : Apart v row) : Ints k w' v xs := by
  obtain ⟨a, cap, rfl, h1, h2, h3⟩ := h
  refine ⟨a, cap, rfl, h1, h2, fun hp => ?_⟩
  obtain ⟨b, off, rfl, hb, hc⟩ := h3 hp
  have e := hg.block b hb (ha b off _ _ rfl hp)
  refine ⟨b, off, rfl, Nat.lt_of_lt_of_le hb hg.size, fun j hj => ?_⟩
  rw [← hc j hj]
  unfold World.cell?
  rw [show w'.heap[(⟨b, off + j, none⟩ : Addr).block]? = w.heap[(⟨b, off + j, none⟩ : Addr).block]? from e]
theorem Ints.apart {k : IntKind} {w : World} {v : Value} {xs : List Int} (h : Ints k w v xs) {g : Option Nat} (hg : ∀ j, g = some j → w.heap.size ≤ j) : Apart v g := by
  obtain ⟨a, cap, rfl, h1, h2, h3⟩ := h
  intro b off n c e hn e2
  injection e with ea en _
  obtain ⟨b', off', ea', hb, _⟩ := h3 (by omega)
  rw [ea'] at ea
  injection ea with ea
  injection ea with ea
  have := hg b e2.symm
  omega
theorem FreshV.apart {w : World} {v : Value} (h : FreshV w v) {g : Option Nat} (hg : ∀ j, g = some j → j < w.heap.size) : Apart v g := fun b off n c e hn e2 => by
  have h1 := h b off n c e hn
  have h2 := hg b e2.symm
  omega
theorem info_nums : (Tryz.prog.info? 24).map (fun i => (i.zero, i.size, i.bytes)) = some (some (.slice none 0 0), 1, 24) := by kernel_rfl
def RetEuc (p : Int) (xs ys : List Int) (w : World) (e : Ending) (w' : World) : Prop := ∃ vq ve qs R, e = .returned (.tuple #[vq, ve, .int .i64 0]) ∧ w'.ownsRow w.heap.size 24 1 vq qs.length (qs.map (·.1)) ∧ (∀ x ∈ qs, Ints .u64 w' x.1 x.2) ∧
  Ints .u64 w' ve (R qs.length) ∧ R (qs.length + 1) = [] ∧ Rems p R (qAt qs) qs.length ∧ R 0 = xs ∧ R 1 = ys ∧ qs.length ≤ 512 ∧ Ext w w'
set_option maxRecDepth 100000 in
set_option maxHeartbeats 2000000 in
theorem euclid_yes (p : Int) (v u : Value) (xs ys : List Int) (w : World) (hp : rightB p = true) (hF : Fld p) (hv : Ints .u64 w v xs) (hu : Ints .u64 w u ys) (hx : Pol p xs) (hy : Pol p ys) (hl : xs.length ≤ 512 ∧ ys.length ≤ 512) :
    Calls Tryz.prog 162 #[.int .u64 p, v, u] w (RetEuc p xs ys w) := by
  have c1 := hid (polRight_yes p v xs w hp hv hx hl.1)
  have c2 := hid (polRight_yes p u ys w hp hu hy hl.2)
  have Hv := hid hv; have Hu := hid hu; have Hx := hid hx; have Hy := hid hy; have Hp := hid hp; have HF := hid hF
  obtain ⟨i0, hi, hz0, hz1, hz2⟩ := info_parts info_nums
  clear hp hv hu hx hy hF
  go_enter Tryz.func162, Tryz.ntmps162
  go_wp2_with (first
    | (go_at_call_of 163 v; refine c1.out.mono ?_; rintro _ _ ⟨rfl, rfl⟩)
    | (go_at_call_of 163 u; refine c2.out.mono ?_; rintro _ _ ⟨rfl, rfl⟩)
    | fail)
  go_loopw [1, 2, 9] (fun va vb vq wr => ∃ (k : Nat) (R : Nat → List Int) (qs : List (Value × List Int)), qs.length = k ∧ Ints .u64 wr va (R k) ∧ Ints .u64 wr vb (R (k + 1)) ∧ wr.ownsRow w.heap.size 24 1 vq k (qs.map (·.1)) ∧ Hid (∀ x ∈ qs, Ints .u64 wr x.1 x.2) ∧
    Hid (Rems p R (qAt qs) k) ∧ Hid (R 0 = xs ∧ R 1 = ys) ∧ (R (k + 1)).length + k ≤ 512 ∧ Hid (Apart va vq.ownBlock ∧ Apart vb vq.ownBlock ∧ ∀ x ∈ qs, Apart x.1 vq.ownBlock) ∧ Ext w wr) (fun _ vb _ _ => match vb with | .slice _ n _ => n | _ => 0)
  case atStart =>
    exact ⟨0, fun i => if i = 0 then xs else ys, [], rfl, Hv.out, Hu.out, World.ownsRow_nil _ _ _ _, hid (by simp), hid ⟨fun i _ => by split; exact Hx.out; exact Hy.out, fun i _ => by split; exact hl.1; exact hl.2, fun i h => by omega, fun i h => by omega, fun i h => by omega, fun i h => by omega⟩, hid ⟨rfl, rfl⟩, by simpa using hl.2, hid ⟨fun _ _ _ _ _ _ => by simp [Value.ownBlock], fun _ _ _ _ _ _ => by simp [Value.ownBlock], by simp⟩, (by repeat (first | exact Ext.refl _ | assumption | refine Ext.drew ?_ | refine Ext.drewN ?_ _ | refine Ext.alloc ?_ _ | refine Ext.trans ?_ (by assumption)))⟩
  case round =>
    obtain ⟨k, R, qs, hqk, ha, hb, hown, hqi, hrem, h01, hlen, hap, hxw⟩ := hrel
    have Ha := hid ha; have Hb := hid hb; have Hown := hid hown
    obtain ⟨a, cap, rfl, k1, k2, k3⟩ := ha
    obtain ⟨b, capb, rfl, m1, m2, m3⟩ := hb
    obtain ⟨lb, hlb⟩ : ∃ lb, (R (k + 1)).length = lb := ⟨_, rfl⟩
    have Hlb := hid hlb
    rw [hlb] at hlen m1
    rw [hlb] at Hb
    clear k3 m3 hown
    rcases Nat.eq_zero_or_pos lb with h0 | h0
    · obtain rfl : lb = 0 := h0
      have hR : Hid (R (k + 1) = []) := hid (List.eq_nil_of_length_eq_zero hlb)
      rw [hlb]
      clear hlb
      go_wp2_with fail
      go_ret3
      subst hqk
      exact ⟨_, _, qs, R, rfl, Hown.out, hqi.out, Ha.out, hR.out, hrem.out, h01.out.1, h01.out.2, by omega, hxw⟩
    · rw [hlb] at hap ⊢
      obtain ⟨ob, hob9⟩ : ∃ ob, u9.ownBlock = ob := ⟨_, rfl⟩
      rw [hob9] at hap
      have hob : Hid (∀ j, ob = some j → w.heap.size ≤ j ∧ j < wr.heap.size) := hid (fun j e => Hown.out.lt j (hob9.trans e))
      have Hob9 := hid hob9
      clear hob9
      have hne : R (k + 1) ≠ [] := fun e => by rw [e] at hlb; simp at hlb; omega
      have cd := hid (pDiv_yes p _ _ (R k) (R (k + 1)) _ Hp.out Ha.out Hb.out (hrem.out.isp k (by omega)) (hrem.out.isp (k + 1) (by omega)) ⟨hrem.out.len k (by omega), hrem.out.len (k + 1) (by omega)⟩ hne (HF.out.unit_lead (hrem.out.isp (k + 1) (by omega)) hne))
      clear hlb hne
      go_wp2_with fail
      refine cd.out.mono ?_
      rintro _ w1 ⟨v1, v2, q, r, rfl, d1, d2, d3, d4, d5, d6, d7, d8, d9, d10⟩
      have hxw1 := hxw.trans d8
      have hsz1 := hxw1.size
      have Hown1 := hid (ownsRow_ext Hown.out d8)
      have D1 := hid d1; have D2 := hid d2; have D3 := hid d3; have D4 := hid d4; have D5 := hid d5
      have hql : q.length ≤ 513 := by have := hrem.out.len k (by omega); omega
      obtain ⟨va1, vc1, rfl, n1, n2, n3⟩ := d1
      have hrl : r.length < lb := by have := Hlb.out; omega
      have F1 := hid d9; have F2 := hid d10; have Hd6 := hid d6; have Hd7 := hid d7
      clear n3 d2 d3 d4 d5 cd d9 d10 d6 d7
      go_wp2_with (first
        | (at_builtin; refine wpList_append_own_at _ rfl _ _ 56 rfl w.heap.size 24 i0 (.slice none 0 0) 1 24 Tryz.underlying56 hi hz0 hz1 hz2 rfl (by decide) _ _ _ rfl (Hown1.out.alloc _) ⟨w1.heap.size, 0, none⟩ 1 1 [.slice va1 q.length vc1] rfl rfl (cells_new _ _ _ rfl) (by simp [Value.oneCell']) (by simp only [maxLen]; omega) (by omega) (by simp; omega) ?_; intro v3 w2 hown2 hgrow2 _ hat2)
        | fail)
      have hsw := d8.size
      replace hgrow2 : (w1.alloc (.cells #[.slice va1 q.length vc1] 24)).grownBy w2 ob := by rw [← Hob9.out]; exact hgrow2
      replace hat2 : v3.ownBlock = ob ∨ v3.ownBlock = some (w1.heap.size + 1) := by
        rw [← Hob9.out]
        rcases hat2 with e | e
        · exact .inl e
        · exact .inr (by simpa using e)
      have hfresh : ∀ j, v3.ownBlock = some j → v3.ownBlock = some (w1.heap.size + 1) → w1.heap.size ≤ j := fun j e e2 => by rw [e2] at e; injection e; omega
      have ha1 := Ha.out.ext d8
      have hb1 := Hb.out.ext d8
      have hx1 := hid (fun x hx => (hqi.out x hx).ext d8)
      obtain ⟨hapa, hapb, hapq⟩ := hap.out
      have hap1 : Apart (Value.slice va1 q.length vc1) _ := F1.out.apart (fun j e => (hob.out j e).2)
      have hap2 : Apart v2 _ := F2.out.apart (fun j e => (hob.out j e).2)
      have hw2x : Ext w w2 := (hxw1.alloc _).grown hgrow2 (fun j e => (hob.out j e).1)
      have hib := (hb1.alloc (.cells #[.slice va1 q.length vc1] 24)).grownA hgrow2 hapb
      have hir := (D2.out.alloc (.cells #[.slice va1 q.length vc1] 24)).grownA hgrow2 hap2
      have hiq := (D1.out.alloc (.cells #[.slice va1 q.length vc1] 24)).grownA hgrow2 hap1
      have hiqs : Hid (∀ x ∈ qs, Ints .u64 w2 x.1 x.2) := hid (fun x hx => ((hx1.out x hx).alloc (.cells #[.slice va1 q.length vc1] 24)).grownA hgrow2 (hapq x hx))
      have hnew : Hid (Apart (.slice b lb capb) v3.ownBlock ∧ Apart v2 v3.ownBlock ∧ ∀ x ∈ qs ++ [(.slice va1 q.length vc1, q)], Apart x.1 v3.ownBlock) := by
        rcases hat2 with e | e
        · rw [e]
          exact hid ⟨hapb, hap2, fun x hx => by
            rcases List.mem_append.1 hx with h | h
            · exact hapq x h
            · obtain rfl := List.mem_singleton.1 h
              exact hap1⟩
        · exact hid ⟨hb1.apart (fun j ej => hfresh j ej e), D2.out.apart (fun j ej => hfresh j ej e), fun x hx => by
            rcases List.mem_append.1 hx with h | h
            · exact (hx1.out x h).apart (fun j ej => hfresh j ej e)
            · obtain rfl := List.mem_singleton.1 h
              exact D1.out.apart (fun j ej => hfresh j ej e)⟩
      have Hib := hid hib; have Hir := hid hir; have Hiq := hid hiq; have Hown2 := hid hown2
      clear hib hir hiq hown2 hapa hapb hapq hap1 hap2 ha1 hb1 hgrow2 hat2 hfresh
      go_wp2_with fail
      go_roundw
      case rel =>
        refine ⟨k + 1, fun i => if i = k + 2 then r else R i, qs ++ [(.slice va1 q.length vc1, q)], by simp [hqk], ?_, ?_, ?_, hid (fun x hx => ?_), hid (Rems.step hqk hrem.out D3.out D4.out (by omega) D5.out (by have := Hd6.out; exact this) Hd7.out), hid ⟨?_, ?_⟩, ?_, hnew, hw2x⟩
        · dsimp only
          rw [if_neg (by omega)]; exact Hib.out
        · dsimp only
          rw [if_pos rfl]; exact Hir.out
        · rw [List.map_append]; exact Hown2.out
        · rcases List.mem_append.1 hx with h | h
          · exact hiqs.out x h
          · obtain rfl := List.mem_singleton.1 h
            exact Hiq.out
        · dsimp only
          rw [if_neg (by omega)]; exact h01.out.1
        · dsimp only
          rw [if_neg (by omega)]; exact h01.out.2
        · dsimp only
          rw [if_pos rfl]; omega
      case measure =>
        obtain ⟨va2, vc2, e, _⟩ := Hir.out
        subst e
        exact hrl
end Go.Proofs.YthomeenmcajmdaaGreatDoor
namespace Go.Proofs.YthomeenmcajmdaaGreatDoor
variable {p : Int}
theorem Fld.inv (h : Fld p) (hp : 2 ≤ p) {a : Int} (h0 : 0 < a) (ha : a < p) : a * minv p a % p = 1 := unit_inv p a hp (by omega) (h a h0 ha)
theorem Fld.linv (h : Fld p) (hp : 2 ≤ p) {xs : List Int} (hx : Pol p xs) (h0 : xs ≠ []) : lead xs * minv p (lead xs) % p = 1 := h.inv hp (hx.lead_range h0).1 (hx.lead_range h0).2
structure IsGcd (p : Int) (A B G : List Int) : Prop where
  isp : Pol p G
  mon : G ≠ [] → lead G = 1
  da : ∃ u : Ser p, u.poly ∧ pol p A = u * pol p G
  db : ∃ u : Ser p, u.poly ∧ pol p B = u * pol p G
  comb : ∃ s t : Ser p, s.poly ∧ t.poly ∧ pol p G = s * pol p A + t * pol p B
theorem monic_eq (hp : 2 ≤ p) {G H : List Int} (hG : Pol p G) (hH : Pol p H) (h0 : H ≠ []) (hg : lead G = 1) (hh : lead H = 1) (hl : G.length = H.length) {w : Ser p} (hw : w.poly) (h : pol p G = w * pol p H) : G = H := by
  have hlen := List.length_pos_iff.2 h0
  have hr : (pol p G - pol p H).low (H.length - 1) := fun k hk => by
    rw [Ser.sub_co, hG.rng.co, hH.rng.co]
    by_cases e : k = H.length - 1
    · have e1 : G.getD k 0 = 1 := by rw [e, ← hl]; exact hg
      have e2 : H.getD k 0 = 1 := by rw [e]; exact hh
      rw [e1, e2]; simp
    · rw [getD_over (xs := G) (by omega), getD_over (xs := H) (by omega)]; simp
  have h1 := pol_div_unique (q := w) (q' := 1) (r := 0) (r' := pol p G - pol p H) hH h0 (i := 1) (by rw [hh]; exact mod_small (by omega) (by omega)) hw Ser.poly_one (Ser.low_zero _) hr
    (by rw [Ser.add_zero, Ser.one_mul, ← h, Ser.add_comm, Ser.sub_add])
  exact hG.inj hH (Ser.eq_of_sub h1.2.symm)
theorem IsGcd.nil {A B G : List Int} (h : IsGcd p A B G) (hA : Pol p A) (hB : Pol p B) : G = [] ↔ A = [] ∧ B = [] := by
  constructor
  · intro e
    obtain ⟨u, _, h1⟩ := h.da
    obtain ⟨v, _, h2⟩ := h.db
    rw [e, pol_nil, Ser.mul_zero] at h1 h2
    exact ⟨hA.zero h1, hB.zero h2⟩
  · rintro ⟨rfl, rfl⟩
    obtain ⟨s, t, _, _, h1⟩ := h.comb
    rw [pol_nil, Ser.mul_zero, Ser.mul_zero, Ser.add_zero] at h1
    exact h.isp.zero h1
theorem IsGcd.swap {A B G : List Int} (h : IsGcd p A B G) : IsGcd p B A G := ⟨h.isp, h.mon, h.db, h.da, by
  obtain ⟨s, t, h1, h2, h3⟩ := h.comb
  exact ⟨t, s, h2, h1, by rw [h3, Ser.add_comm]⟩⟩
theorem IsGcd.mul {A B G : List Int} (h : IsGcd p A B G) {d a b : Ser p} (ha : a.poly) (hb : b.poly) (h1 : pol p A = a * d) (h2 : pol p B = b * d) : ∃ w : Ser p, w.poly ∧ pol p G = w * d := by
  obtain ⟨s, t, hs, ht, h3⟩ := h.comb
  refine ⟨s * a + t * b, (hs.mul ha).add (ht.mul hb), ?_⟩
  rw [h3, h1, h2, Ser.add_mul, Ser.mul_assoc, Ser.mul_assoc]
theorem monic_of {xs zs : List Int} {m : Int} (hx : Pol p xs) (h0 : xs ≠ []) (hz : Pol p zs) (h : pol p zs = pol p xs * Ser.C p m) (hm : lead xs * m % p = 1) (hm0 : 0 ≤ m) (hmp : m < p) : zs ≠ [] ∧ lead zs = 1 ∧ zs.length = xs.length := by
  have hl := List.length_pos_iff.2 h0
  have ht := Ser.mul_top (a := pol p xs) (b := Ser.C p m) (m := xs.length - 1) (n := 0) ((pol_low xs).mono (by omega)) (Ser.low_C m)
  rw [← h, hx.rng.co, Ser.C_co, if_pos rfl, mod_small hm0 hmp, Nat.add_zero, hz.rng.co, show xs.getD (xs.length - 1) 0 = lead xs from rfl, hm] at ht
  have h1 : xs.length ≤ zs.length := by
    apply Classical.byContradiction
    intro hn
    have := ht.1
    rw [getD_over (by omega)] at this
    omega
  have h2 : zs.length ≤ xs.length := hz.len_le (ht.2.mono (by omega))
  refine ⟨fun e => by have := congrArg List.length e; simp only [List.length_nil] at this; omega, ?_, by omega⟩
  show zs.getD (zs.length - 1) 0 = 1
  rw [show zs.length - 1 = xs.length - 1 by omega]
  exact ht.1
theorem Fld.mul_len (hF : Fld p) (hp : 2 ≤ p) {A B C : List Int} (hA : Pol p A) (hB : Pol p B) (hC : Pol p C) (a0 : A ≠ []) (b0 : B ≠ []) (h : pol p C = pol p A * pol p B) : C.length = A.length + B.length - 1 ∧ C ≠ [] ∧ lead C = lead A * lead B % p := by
  have la := List.length_pos_iff.2 a0
  have lb := List.length_pos_iff.2 b0
  have ht := Ser.mul_top (a := pol p A) (b := pol p B) (m := A.length - 1) (n := B.length - 1) ((pol_low A).mono (by omega)) ((pol_low B).mono (by omega))
  rw [← h, hA.rng.co, hB.rng.co, hC.rng.co, show A.getD (A.length - 1) 0 = lead A from rfl, show B.getD (B.length - 1) 0 = lead B from rfl] at ht
  have hn : lead A * lead B % p ≠ 0 := fun e => by
    have := top_stays (hF.linv hp hB b0 |> fun h => by rw [Int.mul_comm] at h; exact h : minv p (lead B) * lead B % p = 1) (Int.le_of_lt (hA.lead_range a0).1) (hA.lead_range a0).2 e
    exact hA.lead_ne a0 this
  have h1 : A.length + B.length - 1 ≤ C.length := by
    apply Classical.byContradiction
    intro hc
    have := ht.1
    rw [getD_over (by omega)] at this
    exact hn this.symm
  have h2 : C.length ≤ A.length + B.length - 1 := hC.len_le (ht.2.mono (by omega))
  refine ⟨by omega, fun e => by have := congrArg List.length e; simp only [List.length_nil] at this; omega, ?_⟩
  show C.getD (C.length - 1) 0 = _
  rw [show C.length - 1 = A.length - 1 + (B.length - 1) by omega]
  exact ht.1
theorem Rems.dvd {R Q : Nat → List Int} {k : Nat} (h : Rems p R Q k) (h0 : R (k + 1) = []) : ∀ j i, i + j = k → (∃ u : Ser p, u.poly ∧ pol p (R i) = u * pol p (R k)) ∧ (∃ u : Ser p, u.poly ∧ pol p (R (i + 1)) = u * pol p (R k))
  | 0, i, e => by
    obtain rfl : i = k := by omega
    exact ⟨⟨1, Ser.poly_one, (Ser.one_mul _).symm⟩, ⟨0, Ser.poly_zero, by rw [h0, pol_nil, Ser.zero_mul]⟩⟩
  | j + 1, i, e => by
    obtain ⟨⟨u, hu, e1⟩, ⟨v, hv, e2⟩⟩ := Rems.dvd h h0 j (i + 1) (by omega)
    refine ⟨⟨pol p (Q i) * u + v, ((pol_poly _).mul hu).add hv, ?_⟩, ⟨u, hu, e1⟩⟩
    rw [h.eqn i (by omega), e2, e1, Ser.add_mul, Ser.mul_assoc]
theorem Rems.comb {R Q : Nat → List Int} {k : Nat} (h : Rems p R Q k) : ∀ j i, i + j = k → ∃ s t : Ser p, s.poly ∧ t.poly ∧ pol p (R k) = s * pol p (R i) + t * pol p (R (i + 1))
  | 0, i, e => by
    obtain rfl : i = k := by omega
    exact ⟨1, 0, Ser.poly_one, Ser.poly_zero, by rw [Ser.one_mul, Ser.zero_mul, Ser.add_zero]⟩
  | j + 1, i, e => by
    obtain ⟨s, t, hs, ht, e1⟩ := Rems.comb h j (i + 1) (by omega)
    refine ⟨t, s - t * pol p (Q i), ht, hs.sub (ht.mul (pol_poly _)), ?_⟩
    have e2 : s = s - t * pol p (Q i) + t * pol p (Q i) := (Ser.sub_add _ _).symm
    rw [h.eqn i (by omega), e1]
    conv => lhs; rw [e2]
    rw [Ser.add_mul, Ser.mul_add]
    ac_rfl
theorem Rems.gcd {R Q : Nat → List Int} {k : Nat} (hp : 2 ≤ p) (h : Rems p R Q k) (h0 : R (k + 1) = []) {G : List Int} (hG : Pol p G) (hm : G ≠ [] → lead G = 1) {c d : Int} (h1 : pol p G = pol p (R k) * Ser.C p c) (h2 : c * d % p = 1 ∨ R k = []) : IsGcd p (R 0) (R 1) G := by
  obtain ⟨⟨u, hu, e1⟩, ⟨v, hv, e2⟩⟩ := Rems.dvd h h0 k 0 (by omega)
  obtain ⟨s, t, hs, ht, e3⟩ := Rems.comb h k 0 (by omega)
  have e4 : pol p (R k) = pol p G * Ser.C p d := by
    rcases h2 with h2 | h2
    · rw [h1, Ser.mul_assoc, Ser.C_mul, Ser.C_congr (show c * d % p = 1 % p by rw [h2]; exact (mod_small (by omega) (by omega)).symm), Ser.C_one, Ser.mul_one]
    · rw [h1, h2, pol_nil, Ser.zero_mul, Ser.zero_mul]
  refine ⟨hG, hm, ⟨u * Ser.C p d, hu.mul (Ser.poly_C d), ?_⟩, ⟨v * Ser.C p d, hv.mul (Ser.poly_C d), ?_⟩, ⟨s * Ser.C p c, t * Ser.C p c, hs.mul (Ser.poly_C c), ht.mul (Ser.poly_C c), ?_⟩⟩
  · rw [e1, e4]; ac_rfl
  · rw [show (1 : Nat) = 0 + 1 from rfl, e2, e4]; ac_rfl
  · rw [h1, e3, Ser.add_mul]; ac_rfl
end Go.Proofs.YthomeenmcajmdaaGreatDoor
namespace Go.Proofs.YthomeenmcajmdaaGreatDoor
variable {p : Int} {n : Nat} {A : Nat → RowF}
theorem ser_div {g : Ser p} {s : Nat} (hl : g.low (s + 1)) (h1 : g.co s = 1) : ∀ (m : Nat) (f : Ser p), f.low m → ∃ q r : Ser p, q.poly ∧ r.low s ∧ f = q * g + r := by
  intro m
  induction m with
  | zero => exact fun f hf => ⟨0, f, Ser.poly_zero, hf.mono (by omega), by rw [Ser.zero_mul, Ser.zero_add]⟩
  | succ m ih =>
    intro f hf
    rcases Nat.lt_or_ge m s with c | c
    · exact ⟨0, f, Ser.poly_zero, hf.mono (by omega), by rw [Ser.zero_mul, Ser.zero_add]⟩
    have hcg : (Ser.C p (f.co m) * g).low (s + 1) := fun k hk => by rw [Ser.C_mul_co, hl k hk, Int.mul_zero, Int.zero_emod]
    obtain ⟨q, r, hq, hr, e⟩ := ih (f - Ser.up (m - s) (Ser.C p (f.co m) * g)) fun k hk => by
      rw [Ser.sub_co]
      rcases Nat.lt_or_ge m k with c' | c'
      · rw [hf k (by omega), (hcg.up (m - s)) k (by omega)]; simp
      · obtain rfl : k = m := by omega
        rw [Ser.up_co, if_neg (by omega), show k - (k - s) = s by omega, Ser.C_mul_co, h1, Int.mul_one, f.ok, Int.sub_self, Int.zero_emod]
    refine ⟨q + Ser.up (m - s) (Ser.C p (f.co m)), r, hq.add ⟨_, (Ser.low_C _).up _⟩, hr, ?_⟩
    rw [Ser.add_mul, Ser.up_mul]
    have h2 := Ser.sub_add f (Ser.up (m - s) (Ser.C p (f.co m) * g))
    refine h2.symm.trans ?_
    rw [e]
    ac_rfl
def Ser.list (g : Ser p) (m : Nat) : List Int := tab m g.co
theorem Ser.list_len (g : Ser p) (m : Nat) : (g.list m).length = m := tab_len _ _
theorem Ser.list_pol {g : Ser p} {m : Nat} (h : g.low m) : pol p (g.list m) = g := Ser.ext_ fun k => by
  rw [pol_co]
  rcases Nat.lt_or_ge k m with c | c
  · rw [Ser.list, tab_get _ c, g.ok]
  · rw [getD_over (by rw [Ser.list_len]; exact c), h k c]; simp
theorem Ser.list_isp (hp : 2 ≤ p) {g : Ser p} {s : Nat} (h1 : g.co s = 1) : Pol p (g.list (s + 1)) ∧ g.list (s + 1) ≠ [] ∧ lead (g.list (s + 1)) = 1 := by
  have hlead : (g.list (s + 1)).getD s 0 = 1 := by rw [Ser.list, tab_get _ (by omega), h1]
  refine ⟨⟨tab_rng fun k _ => g.co_range hp k, fun _ => ?_⟩, fun e => ?_, ?_⟩
  · rw [Ser.list_len, Nat.add_sub_cancel, hlead]; omega
  · have := g.list_len (s + 1); rw [e] at this; simp at this
  · unfold lead; rw [Ser.list_len, Nat.add_sub_cancel, hlead]
structure IsOwn (p : Int) (n : Nat) (A : Nat → RowF) (V : RowF → Prop) (g : List Int) : Prop where
  isp : Pol p g
  ne : g ≠ []
  mon : lead g = 1
  kil : ∀ v, V v → Kil p n A (pol p g) v
  dvd : ∀ f : Ser p, f.poly → (∀ v, V v → Kil p n A f v) → ∃ q : Ser p, q.poly ∧ f = q * pol p g
theorem IsOwn.one (hp : 2 ≤ p) {V : RowF → Prop} {g g' : List Int} (h : IsOwn p n A V g) (h' : IsOwn p n A V g') : g = g' := by
  have i1 : (1 : Int) * 1 % p = 1 := mod_small (by omega) (by omega)
  obtain ⟨q, hq, e⟩ := h'.dvd _ (pol_poly g) h.kil
  obtain ⟨q', hq', e'⟩ := h.dvd _ (pol_poly g') h'.kil
  have l1 := len_mul h.isp h.ne h'.isp (i := 1) (by rw [h'.mon]; exact i1) hq e
  have l2 := len_mul h'.isp h'.ne h.isp (i := 1) (by rw [h.mon]; exact i1) hq' e'
  exact monic_eq hp h.isp h'.isp h'.ne h.mon h'.mon (by omega) hq e
theorem IsOwn.of (hp : 2 ≤ p) {V : RowF → Prop} {g : Ser p} {s : Nat} (hl : g.low (s + 1)) (h1 : g.co s = 1) (hk : ∀ v, V v → Kil p n A g v) (hm : ∀ f : Ser p, f.low s → (∀ v, V v → Kil p n A f v) → f = 0) : IsOwn p n A V (g.list (s + 1)) := by
  obtain ⟨i1, i2, i3⟩ := Ser.list_isp hp h1
  refine ⟨i1, i2, i3, by rw [Ser.list_pol hl]; exact hk, fun f ⟨m, hf⟩ hkf => ?_⟩
  rw [Ser.list_pol hl]
  obtain ⟨q, r, hq, hr, e⟩ := ser_div hl h1 m f hf
  have hr0 := hm r hr fun v hv => by
    have h2 := (hkf v hv).sub ((hk v hv).mul hq)
    rwa [Ser.sub_eq (e.trans (Ser.add_comm _ _))] at h2
  exact ⟨q, hq, by rw [e, hr0, Ser.add_zero]⟩
theorem IsOwn.len (hp : HasInv p) {V : RowF → Prop} {g : List Int} (h : IsOwn p n A V g) : g.length ≤ n + 1 := by
  obtain ⟨s, f, h0, h1, h2, h3⟩ := min_exists (n := n) hp A
  obtain ⟨q, hq, e⟩ := h.dvd f ⟨_, h1⟩ fun v _ => h3 v
  obtain ⟨i1, i2, i3⟩ := Ser.list_isp hp.1 h2
  have := len_mul (xs := f.list (s + 1)) i1 i2 h.isp (i := 1) (by rw [h.mon]; exact mod_small (by have := hp.1; omega) (by have := hp.1; omega)) hq (by rw [Ser.list_pol h1]; exact e)
  rw [Ser.list_len] at this
  omega
theorem IsOwn.none (hp : 2 ≤ p) : IsOwn p n A (fun _ => False) [1] :=
  ⟨Pol.one (by omega) (by omega), by simp, rfl, fun _ h => h.elim, fun f hf _ => ⟨f, hf, by rw [pol_single, Ser.C_one, Ser.mul_one]⟩⟩
theorem IsOwn.congr {V V' : RowF → Prop} {g : List Int} (h : IsOwn p n A V g) (e : ∀ v, V v ↔ V' v) : IsOwn p n A V' g :=
  ⟨h.isp, h.ne, h.mon, fun v hv => h.kil v ((e v).2 hv), fun f hf hk => h.dvd f hf fun v hv => hk v ((e v).1 hv)⟩
theorem monic_cancel (hp : 2 ≤ p) {G : List Int} (hG : Pol p G) (h0 : G ≠ []) (h1 : lead G = 1) {x y : Ser p} (hx : x.poly) (hy : y.poly) (h : x * pol p G = y * pol p G) : x = y :=
  (pol_div_unique (q := x) (q' := y) (r := 0) (r' := 0) hG h0 (i := 1) (by rw [h1]; exact mod_small (by omega) (by omega)) hx hy (Ser.low_zero _) (Ser.low_zero _) (by rw [Ser.add_zero, Ser.add_zero, h])).1
theorem IsOwn.lcm (hp : HasInv p) {V V' : RowF → Prop} {g g' L G : List Int} {c : Int} (h : IsOwn p n A V g) (h' : IsOwn p n A V' g') (hL : Pol p L) (l0 : L ≠ []) (l1 : lead L = 1) (hG : IsGcd p g g' G) (e : pol p L * pol p G = Ser.C p c * (pol p g * pol p g')) : IsOwn p n A (fun v => V v ∨ V' v) L := by
  have hp2 := hp.1
  have g0 : G ≠ [] := fun e0 => h.ne ((hG.nil h.isp h'.isp).1 e0).1
  have g1 := hG.mon g0
  obtain ⟨a, ha, ea⟩ := hG.da
  obtain ⟨b, hb, eb⟩ := hG.db
  obtain ⟨s, t, hs, ht, est⟩ := hG.comb
  have hCc := Ser.poly_C (p := p) c
  have e1 : pol p L = Ser.C p c * b * pol p g := monic_cancel hp2 hG.isp g0 g1 (pol_poly L) ((hCc.mul hb).mul (pol_poly g)) (by rw [e, eb]; ac_rfl)
  have e2 : pol p L = Ser.C p c * a * pol p g' := monic_cancel hp2 hG.isp g0 g1 (pol_poly L) ((hCc.mul ha).mul (pol_poly g')) (by rw [e, ea]; ac_rfl)
  have hc : c % p ≠ 0 := fun hc => hL.ne l0 (by rw [e1, Ser.C_congr (d := 0) (by rw [hc]; simp), Ser.C_zero, Ser.zero_mul, Ser.zero_mul])
  obtain ⟨d, hd⟩ := hp.2 c hc
  have ed : Ser.C p d * Ser.C p c = 1 := by rw [Ser.C_mul, Int.mul_comm, Ser.C_congr (d := 1) (by rw [hd, hp.one])]; rfl
  refine ⟨hL, l0, l1, fun v hv => ?_, fun f hf hk => ?_⟩
  · rcases hv with hv | hv
    · rw [e1]; exact (h.kil v hv).mul (hCc.mul hb)
    · rw [e2]; exact (h'.kil v hv).mul (hCc.mul ha)
  · obtain ⟨x, hx, ex⟩ := h.dvd f hf fun v hv => hk v (.inl hv)
    obtain ⟨y, hy, ey⟩ := h'.dvd f hf fun v hv => hk v (.inr hv)
    refine ⟨(s * y + t * x) * Ser.C p d, ((hs.mul hy).add (ht.mul hx)).mul (Ser.poly_C d), ?_⟩
    refine monic_cancel hp2 hG.isp g0 g1 hf ((((hs.mul hy).add (ht.mul hx)).mul (Ser.poly_C d)).mul (pol_poly L)) ?_
    have k1 : f * pol p G = (s * y + t * x) * (pol p g * pol p g') := by
      have k2 : f * pol p G = s * pol p g * f + t * pol p g' * f := by rw [est, Ser.mul_add]; ac_rfl
      rw [k2, Ser.add_mul]
      have k3 : s * pol p g * f = s * y * (pol p g * pol p g') := by rw [ey]; ac_rfl
      have k4 : t * pol p g' * f = t * x * (pol p g * pol p g') := by rw [ex]; ac_rfl
      rw [k3, k4]
    have k5 : (s * y + t * x) * Ser.C p d * pol p L * pol p G = (s * y + t * x) * (Ser.C p d * Ser.C p c) * (pol p g * pol p g') := by
      rw [Ser.mul_assoc, e]; ac_rfl
    rw [k1, k5, ed, Ser.mul_one]
def IsMin (p : Int) (n : Nat) (A : Nat → RowF) (h : List Int) : Prop := IsOwn p n A (fun v => ∃ i, i < n ∧ v = uniF i) h
theorem IsMin.all {h : List Int} (H : IsMin p n A h) (v : RowF) : Kil p n A (pol p h) v := Kil.all (pol_poly h) (fun i hi => H.kil _ ⟨i, hi, rfl⟩) v
theorem IsMin.two {h : List Int} (H : IsMin p n A h) (hp : 2 ≤ p) (hn : 0 < n) : 2 ≤ h.length := by
  refine Classical.byContradiction fun hl => ?_
  have h0 := List.length_pos_iff.2 H.ne
  have hlen : h.length = 1 := by omega
  have hk := (H.all (uniF 0)).at_ (d := 1) (hlen ▸ pol_low h) 0 hn
  have h1 : (pol p h).co 0 = 1 := by
    have := H.mon
    unfold lead at this
    rw [hlen] at this
    rw [pol_co, this]; exact mod_small (by omega) (by omega)
  have e : doF n A 1 (pol p h).co (uniF 0) 0 = 1 := by
    show 0 + (pol p h).co 0 * uniF 0 0 = 1
    rw [h1]; rfl
  rw [e, mod_small (by omega) (by omega)] at hk
  omega
theorem IsOwn.less (hp : 2 ≤ p) {V : RowF → Prop} {g : List Int} (h : IsOwn p n A V g) {f : Ser p} (hf : f.low (g.length - 1)) (hk : ∀ v, V v → Kil p n A f v) : f = 0 := by
  obtain ⟨q, hq, e⟩ := h.dvd f ⟨_, hf⟩ hk
  have h0 := List.length_pos_iff.2 h.ne
  have h1 : (pol p g).co (g.length - 1) = 1 := by rw [h.isp.rng.co]; exact h.mon
  have h2 := Ser.div_unique (q := q) (b := pol p g) (r := 0 - f) (n := g.length - 1) ((pol_low g).mono (by omega)) (i := 1) (by rw [h1]; exact mod_small (by omega) (by omega)) hq ((Ser.low_zero _).sub hf) (by
    rw [← e, Ser.add_comm, Ser.sub_add])
  rw [e, h2.1, Ser.zero_mul]
theorem IsOwn.eq (hp : 2 ≤ p) {V : RowF → Prop} {g : List Int} (h : IsOwn p n A V g) {f : Ser p} (hf : f.low g.length) (h1 : f.co (g.length - 1) = 1) (hk : ∀ v, V v → Kil p n A f v) : f = pol p g := by
  have h0 := List.length_pos_iff.2 h.ne
  have h2 : (pol p g).co (g.length - 1) = 1 := by rw [h.isp.rng.co]; exact h.mon
  refine Ser.eq_of_sub (h.less hp (fun k hk' => ?_) fun v hv => (hk v hv).sub (h.kil v hv))
  rw [Ser.sub_co]
  rcases Nat.lt_or_ge k g.length with c | c
  · obtain rfl : k = g.length - 1 := by omega
    rw [h1, h2]; simp
  · rw [hf k c, pol_low g k c]; simp
theorem IsOwn.any (hp : HasInv p) (V : RowF → Prop) : ∃ g, IsOwn p n A V g := by
  have key : ∀ m s (g : Ser p), s ≤ m → g.low (s + 1) → g.co s = 1 → (∀ v, V v → Kil p n A g v) → ∃ g, IsOwn p n A V g := by
    intro m
    induction m with
    | zero =>
      intro s g hs h1 h2 h3
      obtain rfl : s = 0 := by omega
      exact ⟨_, IsOwn.of hp.1 h1 h2 h3 fun f hf _ => hf.zero⟩
    | succ m ih =>
      intro s g hs h1 h2 h3
      by_cases hm : ∀ f : Ser p, f.low s → (∀ v, V v → Kil p n A f v) → f = 0
      · exact ⟨_, IsOwn.of hp.1 h1 h2 h3 hm⟩
      · obtain ⟨f, hf⟩ := Classical.not_forall.1 hm
        obtain ⟨hf1, hf⟩ := Classical.not_imp.1 hf
        obtain ⟨hf2, hf3⟩ := Classical.not_imp.1 hf
        obtain ⟨d, d1, d2⟩ := Ser.poly.top ⟨_, hf1⟩ hf3
        have hds : d < s := Classical.byContradiction fun c => d1 (hf1 d (by omega))
        obtain ⟨b, hb⟩ := hp.2 (f.co d) (by rw [f.ok]; exact d1)
        exact ih d (Ser.C p b * f) (by omega) (fun k hk => by rw [Ser.C_mul_co, d2 k hk, Int.mul_zero, Int.zero_emod]) (by rw [Ser.C_mul_co, Int.mul_comm]; exact hb) fun v hv => (hf2 v hv).mul (Ser.poly_C b)
  obtain ⟨s, g, -, h1, h2, h3⟩ := min_exists (n := n) hp A
  exact key s s g (Nat.le_refl _) h1 h2 fun v _ => h3 v
end Go.Proofs.YthomeenmcajmdaaGreatDoor
namespace Go.Proofs.YthomeenmcajmdaaGreatDoor
def itL (p : List Int) : Nat → Nat → Nat
  | 0, x => x
  | k + 1, x => (p.getD (itL p k x) 0).toNat
theorem itL_succ (p : List Int) (k x : Nat) : itL p (k + 1) x = (p.getD (itL p k x) 0).toNat := rfl
theorem itL_add (p : List Int) (i k x : Nat) : itL p (i + k) x = itL p i (itL p k x) := by
  induction i with
  | zero => rw [Nat.zero_add]; rfl
  | succ i ih => rw [show i + 1 + k = (i + k) + 1 by omega, itL_succ, itL_succ, ih]
variable {n : Nat} {p : List Int}
theorem Ord.it_lt (h : Ord n p) {x : Nat} (hx : x < n) (k : Nat) : itL p k x < n := by
  induction k with
  | zero => exact hx
  | succ k ih => have := h.get ih; rw [itL_succ]; omega
theorem Ord.step_inj (h : Ord n p) {x y : Nat} (hx : x < n) (hy : y < n) (e : (p.getD x 0).toNat = (p.getD y 0).toNat) : x = y := by
  have h1 := h.get hx
  have h2 := h.get hy
  exact h.inj hx hy (by omega)
theorem Ord.it_inj (h : Ord n p) {x y : Nat} (hx : x < n) (hy : y < n) (k : Nat) (e : itL p k x = itL p k y) : x = y := by
  induction k with
  | zero => exact e
  | succ k ih => exact ih (h.step_inj (h.it_lt hx k) (h.it_lt hy k) e)
theorem Ord.comes_back (h : Ord n p) {x : Nat} (hx : x < n) : ∃ r, 1 ≤ r ∧ r ≤ n ∧ itL p r x = x := by
  by_cases hn : ((List.range (n + 1)).map fun k => ((itL p k x : Nat) : Int)).Nodup
  · exfalso
    have := nodup_len (r := upL n) hn fun y hy => by
      obtain ⟨k, _, rfl⟩ := List.mem_map.1 hy
      have := h.it_lt hx k
      exact upL_mem.2 (by omega)
    rw [upL_len] at this
    simp at this
    omega
  · rw [List.Nodup, List.pairwise_map, List.pairwise_iff_getElem] at hn
    simp only [List.length_range, List.getElem_range, Classical.not_forall] at hn
    obtain ⟨i, k, hi, hk, hik, e⟩ := hn
    have e' : itL p i x = itL p k x := by
      have := Classical.not_not.1 e
      omega
    refine ⟨k - i, by omega, by omega, ?_⟩
    rw [show k = i + (k - i) by omega, itL_add] at e'
    exact (h.it_inj hx (h.it_lt hx _) i e').symm
def perL (p : List Int) (x : Nat) : Nat := ((List.range p.length).findIdx? fun k => itL p (k + 1) x == x).getD 0 + 1
theorem Ord.per (h : Ord n p) {x : Nat} (hx : x < n) : 1 ≤ perL p x ∧ perL p x ≤ n ∧ itL p (perL p x) x = x ∧ ∀ k, 1 ≤ k → k < perL p x → itL p k x ≠ x := by
  obtain ⟨r, h1, h2, h3⟩ := h.comes_back hx
  have hl : p.length = n := h.len
  cases hf : (List.range p.length).findIdx? fun k => itL p (k + 1) x == x with
  | none =>
    rw [List.findIdx?_eq_none_iff] at hf
    have := hf (r - 1) (List.mem_range.2 (by omega))
    rw [show r - 1 + 1 = r by omega] at this
    simp [h3] at this
  | some k =>
    rw [List.findIdx?_eq_some_iff_getElem] at hf
    obtain ⟨hk, h4, h5⟩ := hf
    simp only [List.length_range] at hk
    simp only [List.getElem_range, beq_iff_eq] at h4
    unfold perL
    have e : ((List.range p.length).findIdx? fun k => itL p (k + 1) x == x) = some k := by
      rw [List.findIdx?_eq_some_iff_getElem]
      exact ⟨by simpa using hk, by simpa using h4, h5⟩
    rw [e]
    simp only [Option.getD_some]
    refine ⟨by omega, by omega, h4, fun j hj1 hj2 => ?_⟩
    have := h5 (j - 1) (by omega)
    simp only [List.getElem_range, show j - 1 + 1 = j by omega] at this
    simpa using this
theorem Ord.it_mod (h : Ord n p) {x : Nat} (hx : x < n) (k : Nat) : itL p k x = itL p (k % perL p x) x := by
  obtain ⟨h1, _, h3, _⟩ := h.per hx
  have hr : ∀ q, itL p (q * perL p x) x = x := fun q => by
    induction q with
    | zero => rw [Nat.zero_mul]; rfl
    | succ q ih => rw [Nat.succ_mul, itL_add, h3, ih]
  conv => lhs; rw [← Nat.mod_add_div k (perL p x), Nat.mul_comm, itL_add, hr]
end Go.Proofs.YthomeenmcajmdaaGreatDoor
