import Derived.Test.YthomeenmcajmdaaGreatDoorBun01
import Derived.WalkKit
import Derived.WalkSpells
import Derived.WalkLawsBesides
import Derived.BigQuiet
import Derived.Deep.QuietTactic
import Derived.Deep.RegionWith
import Derived.Deep.DeepCutAuto
import Derived.ProofKit
import Derived.OpenShut
import Derived.Carry
namespace Go.Proofs.YthomeenmcajmdaaGreatDoor
open Go.RowKit Go.ChangeShapes Go.WideShapes Go.ChangeAt
theorem u64_wf {n : Int} (h : (Lit.int .u64 n).wf = true) : 0 ≤ n ∧ n ≤ 18446744073709551615 := by
  simp [Lit.wf, IntKind.min, IntKind.max, IntKind.bits, IntKind.signed] at h; omega
def Ext (w w' : World) : Prop := Below w.heap.size w w'
theorem Ext.refl (w : World) : Ext w w := Below.refl _ _
theorem Ext.trans {a b c : World} (h : Ext a b) (k : Ext b c) : Ext a c := Below.trans h (Below.mono k h.size)
theorem Ext.drew {a b : World} (h : Ext a b) : Ext a b.drew := Below.drew h
theorem Ext.drewN {a b : World} (h : Ext a b) (n : Nat) : Ext a (b.drewN n) := ⟨h.os, h.tape, h.output, h.size, h.block⟩
theorem Ext.alloc {a b : World} (h : Ext a b) (o : Obj) : Ext a (b.alloc o) := Below.alloc h h.size o
theorem Ext.cells {w w' : World} (h : Ext w w') : ∀ b o, b < w.heap.size → w'.cell? ⟨b, o, none⟩ = w.cell? ⟨b, o, none⟩ := fun b o hb => Below.cell (p := ⟨b, o, none⟩) h hb
theorem Ext.size {w w' : World} (h : Ext w w') : w.heap.size ≤ w'.heap.size := Below.size h
def Ret (v : Value) (w : World) (e : Ending) (w' : World) : Prop := e = .returned v ∧ Ext w w'
def Drw (w w' : World) : Prop := ∃ n, w' = w.drewN n
theorem Drw.refl (w : World) : Drw w w := ⟨0, rfl⟩
theorem Drw.drewN {a b : World} (h : Drw a b) (n : Nat) : Drw a (b.drewN n) := by
  obtain ⟨m, rfl⟩ := h
  exact ⟨m + n, World.drewN_drewN _ _ _⟩
theorem Drw.trans {a b c : World} (h : Drw a b) (k : Drw b c) : Drw a c := by
  obtain ⟨n, rfl⟩ := k
  exact h.drewN n
theorem Drw.ext {a b : World} (h : Drw a b) : Ext a b := by
  obtain ⟨n, rfl⟩ := h
  exact (Ext.refl a).drewN n
def RetD (v : Value) (w : World) (e : Ending) (w' : World) : Prop := e = .returned v ∧ Drw w w'
theorem RetD.ret {P : Program} {f : FuncId} {args : Array Value} {v : Value} {w : World} (h : Calls P f args w (RetD v w)) : Calls P f args w (Ret v w) :=
  h.mono fun _ _ ⟨he, hd⟩ => ⟨he, hd.ext⟩
theorem quiet_d {P : Program} {f : FuncId} {args : Array Value} {w : World} {n : Nat} {v : Value}
    (h : Calls P f args (w.drewN n) (RetD v (w.drewN n))) : Calls P f args (w.drewN n) fun e w'' => e = .returned v ∧ ∃ m, w'' = w.drewN m :=
  h.mono fun _ _ ⟨he, m, hm⟩ => ⟨he, n + m, by rw [hm, World.drewN_drewN]⟩
theorem quiet_l {P : Program} {f : FuncId} {args : Array Value} {w : World} {n : Nat} {v : Value}
    (h : Calls P f args (w.drewN n) fun e w' => e = .returned v ∧ w.drewN n = w') : Calls P f args (w.drewN n) fun e w'' => e = .returned v ∧ ∃ m, w'' = w.drewN m :=
  h.mono fun _ _ ⟨he, hm⟩ => ⟨he, n, hm.symm⟩
theorem quiet_add_l {P : Program} {f : FuncId} {args : Array Value} {w : World} {a n : Nat} {v : Value}
    (h : Calls P f args (w.drewN (a + n)) fun e w' => e = .returned v ∧ w.drewN (a + n) = w') : Calls P f args (w.drewN (a + n)) fun e w'' => e = .returned v ∧ ∃ m, w'' = w.drewN (a + m) :=
  h.mono fun _ _ ⟨he, hm⟩ => ⟨he, n, hm.symm⟩
def Ints (k : IntKind) (w : World) (v : Value) (xs : List Int) : Prop :=
  ∃ (a : Option Addr) (cap : Nat), v = .slice a xs.length cap ∧ xs.length ≤ cap ∧ cap ≤ 9223372036854775807 ∧
    (0 < xs.length → ∃ b off, a = some ⟨b, off, none⟩ ∧ b < w.heap.size ∧ ∀ j, j < xs.length → w.cell? ⟨b, off + j, none⟩ = some (.int k (xs.getD j 0)))
theorem Ints.ext {k : IntKind} {w w' : World} {v : Value} {xs : List Int} (h : Ints k w v xs) (he : Ext w w') : Ints k w' v xs := by
  obtain ⟨a, cap, h1, h2, h3, h4⟩ := h
  refine ⟨a, cap, h1, h2, h3, fun hp => ?_⟩
  obtain ⟨b, off, ha, hb, hc⟩ := h4 hp
  exact ⟨b, off, ha, Nat.lt_of_lt_of_le hb he.size, fun j hj => (he.cells _ _ hb).trans (hc j hj)⟩
theorem Ints.drewN {k : IntKind} {w : World} {v : Value} {xs : List Int} (h : Ints k w v xs) (n : Nat) : Ints k (w.drewN n) v xs := h.ext ((Ext.refl w).drewN n)
theorem Ints.mk {k : IntKind} {w : World} {b off cap : Nat} {xs : List Int} (h1 : xs.length ≤ cap) (h2 : cap ≤ 9223372036854775807) (hb : b < w.heap.size) (hc : ∀ j, j < xs.length → w.cell? ⟨b, off + j, none⟩ = some (.int k (xs.getD j 0))) :
    Ints k w (.slice (some ⟨b, off, none⟩) xs.length cap) xs := ⟨_, cap, rfl, h1, h2, fun _ => ⟨b, off, rfl, hb, hc⟩⟩
theorem Ints.nil {k : IntKind} {w : World} : Ints k w (.slice none 0 0) [] := ⟨none, 0, rfl, by simp, by omega, by simp⟩
theorem cell_new (w : World) (cs : Array Value) (t : TypeId) (j : Nat) : (w.alloc (.cells cs t)).cell? ⟨w.heap.size, j, none⟩ = cs[j]? :=
  World.cell?_alloc_new w cs t j
theorem Ints.new1 {k : IntKind} {w : World} {t : TypeId} {a : Int} : Ints k (w.alloc (.cells #[.int k a] t)) (.slice (some ⟨w.heap.size, 0, none⟩) 1 1) [a] := by
  refine Ints.mk (xs := [a]) (by simp) (by omega) (by simp) fun j hj => ?_
  obtain rfl : j = 0 := by simpa using hj
  rw [Nat.zero_add, cell_new]; rfl
theorem Ints.new2 {k : IntKind} {w : World} {t : TypeId} {a b : Int} : Ints k (w.alloc (.cells #[.int k a, .int k b] t)) (.slice (some ⟨w.heap.size, 0, none⟩) 2 2) [a, b] := by
  refine Ints.mk (xs := [a, b]) (by simp) (by omega) (by simp) fun j hj => ?_
  rw [Nat.zero_add, cell_new]
  match j, hj with
  | 0, _ => rfl
  | 1, _ => rfl
  | j + 2, hj => exact absurd hj (by simp)
theorem Ints.new3 {k : IntKind} {w : World} {t : TypeId} {a b c : Int} : Ints k (w.alloc (.cells #[.int k a, .int k b, .int k c] t)) (.slice (some ⟨w.heap.size, 0, none⟩) 3 3) [a, b, c] := by
  refine Ints.mk (xs := [a, b, c]) (by simp) (by omega) (by simp) fun j hj => ?_
  rw [Nat.zero_add, cell_new]
  match j, hj with
  | 0, _ => rfl
  | 1, _ => rfl
  | 2, _ => rfl
  | j + 3, hj => exact absurd hj (by simp)
theorem Ints.at1 {k : IntKind} {w : World} {t : TypeId} {a : Int} {n : Nat} (h : n = w.heap.size) : Ints k (w.alloc (.cells #[.int k a] t)) (.slice (some ⟨n, 0, none⟩) 1 1) [a] := by subst h; exact Ints.new1
theorem Ints.at3 {k : IntKind} {w : World} {t : TypeId} {a b c : Int} {n : Nat} (h : n = w.heap.size) : Ints k (w.alloc (.cells #[.int k a, .int k b, .int k c] t)) (.slice (some ⟨n, 0, none⟩) 3 3) [a, b, c] := by subst h; exact Ints.new3
theorem Ints.alloc {k : IntKind} {w : World} {v : Value} {xs : List Int} (h : Ints k w v xs) (o : Obj) : Ints k (w.alloc o) v xs := h.ext (Ext.alloc (Ext.refl _) o)
theorem Ints.lit {k : IntKind} {w : World} {t : TypeId} {n : Nat} (xs : List Int) (hx : xs.length ≤ 9223372036854775807) (h : n = w.heap.size) : Ints k (w.alloc (.cells (xs.map (Value.int k)).toArray t)) (.slice (some ⟨n, 0, none⟩) xs.length xs.length) xs := by
  subst h
  refine Ints.mk (Nat.le_refl _) hx (by simp) fun j hj => ?_
  rw [Nat.zero_add, cell_new]
  simp [List.getD, hj]
def U64s (xs : List Int) : Prop := ∀ x ∈ xs, 0 ≤ x ∧ x ≤ 18446744073709551615
theorem U64s.get {xs : List Int} (h : U64s xs) {k : Nat} (hk : k < xs.length) : 0 ≤ xs.getD k 0 ∧ xs.getD k 0 ≤ 18446744073709551615 := by
  have e : xs.getD k 0 = xs[k] := by simp [List.getD, List.getElem?_eq_getElem hk]
  rw [e]; exact h _ (List.getElem_mem hk)
theorem U64s.one {a : Int} (h0 : 0 ≤ a) (h : a ≤ 18446744073709551615) : U64s [a] := by
  intro x hx
  obtain rfl : x = a := by simpa using hx
  exact ⟨h0, h⟩
theorem U64s.cons {a : Int} {xs : List Int} (h0 : 0 ≤ a) (h : a ≤ 18446744073709551615) (hx : U64s xs) : U64s (a :: xs) := by
  intro x hx'
  rcases List.mem_cons.1 hx' with rfl | h'
  · exact ⟨h0, h⟩
  · exact hx _ h'
theorem cell_lt {w : World} {a : Addr} {v : Value} (h : w.cell? a = some v) : a.block < w.heap.size := by
  apply Classical.byContradiction
  intro hn
  have : w.heap[a.block]? = none := by simp; omega
  simp [World.cell?, this] at h
theorem open_Ints {H : Type} {enc : TypeId × Value → H} {P : Program} {W : World} {spare : Nat → Bool} {base : Nat} {t e : TypeId} {k : IntKind} {v : Value} {d : DataW H} {ps : List MemPlace}
    (ht : P.underlying t = some (.slice e)) (he : P.underlying e = some (.int k)) (hc : P.cellsOf e = 1)
    (hval : Value.okWide P W .any base t v) (hd : DataW.Trod enc P W 0 spare true t v d ps) :
    ∃ xs : List Int, Ints k W v xs ∧ (∀ x ∈ xs, (Lit.int k x).wf = true) := by
  obtain ⟨a0, len, cap, rfl⟩ := okWide_slice ht hval
  obtain ⟨fuel, hf⟩ := hd
  rcases open_ints ht he hc hf with ⟨hcs, hx⟩ | ⟨a, len', cap', zs, hcs, _, hl, hm, hz, hx, hcell, hwz⟩
  · simp [Value.cells] at hcs
    obtain ⟨rfl, rfl, rfl⟩ := hcs
    exact ⟨[], ⟨none, 0, rfl, by simp, by omega, by simp⟩, by simp⟩
  · simp [Value.cells] at hcs
    obtain ⟨rfl, rfl, rfl⟩ := hcs
    unfold maxLen at hm
    have hlz : len ≤ zs.length := by rw [hz]; split <;> omega
    have hlen : (zs.take len).length = len := by simp; omega
    refine ⟨zs.take len, ⟨some a, cap, by rw [hlen], by omega, by omega, fun hp => ?_⟩, fun x hx => hwz x (List.mem_of_mem_take hx)⟩
    obtain ⟨b, off, spot⟩ := a
    have hspot : spot = none := by simpa [Addr.add] using World.cell?_spot (hcell 0 (by omega))
    subst hspot
    refine ⟨b, off, rfl, ?_, fun j hj => ?_⟩
    · have h0 := hcell 0 (by omega)
      exact cell_lt h0
    · have := hcell j (by omega)
      rw [add_plain] at this
      rw [this]
      simp [List.getD, show j < len by omega]
theorem make_ints {P : Program} (t e : TypeId) (k : IntKind) (bytes : Nat) (hb : bytes ≤ 8) (ht : P.underlying t = some (.slice e)) (hi : (P.info? e).map (fun i => (i.zero, i.size, i.bytes)) = some (some (.int k 0), 1, bytes))
    (n c : Nat) (hnc : n ≤ c) (hc : c ≤ 35184372088832) (w : World) :
    (Instr.makeSlice t (.int .i64 n) (.int .i64 c)).run P w = .ok (.slice (some ⟨w.heap.size, 0, none⟩) n c) (w.alloc (.cells (madeCells #[Value.int k 0] c) e)) := by
  obtain ⟨i, h1, h2, h3, h4⟩ := info_parts hi
  have hbc : i.bytes * c ≤ 8 * c := Nat.mul_le_mul_right _ (by omega)
  have hbi : (i.bytes : Int) * (c : Int) ≤ 281474976710656 := by rw [← Int.natCast_mul]; omega
  have := run_make (P := P) w t e i _ ht h1 h2 .i64 .i64 n c (by omega) (by omega) hbi (by omega)
  rw [this, h3]
  simp [Value.cells]
theorem Ints.made {k : IntKind} {w : World} {t : TypeId} {g n c : Nat} (hnc : n ≤ c) (hc : c ≤ 9223372036854775807) (hg : g = w.heap.size) : Ints k (w.alloc (.cells (madeCells #[Value.int k 0] c) t)) (.slice (some ⟨g, 0, none⟩) n c) (List.replicate n 0) := by
  subst hg
  refine ⟨_, c, by rw [List.length_replicate], by simpa using hnc, hc, fun hp => ⟨_, 0, rfl, by simp, fun j hj => ?_⟩⟩
  rw [Nat.zero_add, cell_new]
  simp at hj
  simp [madeCells, List.getD, hj, show j < c by omega, Nat.mod_one]
theorem Ints.take {k : IntKind} {w : World} {b off cap : Nat} {xs : List Int} (n : Nat) (hn : n ≤ xs.length) (h : Ints k w (.slice (some ⟨b, off, none⟩) xs.length cap) xs) :
    Ints k w (.slice (some ⟨b, off, none⟩) n cap) (xs.take n) := by
  obtain ⟨a, cap', e, h1, h2, h3⟩ := h
  injection e with e1 e2 e3
  subst e1; subst e3
  have hl : (xs.take n).length = n := by simp; omega
  refine ⟨_, cap, by rw [hl], by omega, h2, fun hp => ?_⟩
  obtain ⟨b', off', ha, hb, hc⟩ := h3 (by omega)
  refine ⟨b', off', ha, hb, fun j hj => ?_⟩
  rw [hc j (by omega)]
  simp [List.getD, show j < n by omega]
theorem Ints.take' {k : IntKind} {w : World} {a : Option Addr} {m cap : Nat} {xs : List Int} (n : Nat) (hn : n ≤ xs.length) (h : Ints k w (.slice a m cap) xs) :
    Ints k w (.slice a n cap) (xs.take n) := by
  obtain ⟨a', cap', e, h1, h2, h3⟩ := h
  injection e with e1 e2 e3
  subst e1; subst e3
  have hl : (xs.take n).length = n := by simp; omega
  refine ⟨_, cap, by rw [hl], by omega, h2, fun hp => ?_⟩
  obtain ⟨b', off', ha, hb, hc⟩ := h3 (by omega)
  refine ⟨b', off', ha, hb, fun j hj => ?_⟩
  rw [hc j (by omega)]
  simp [List.getD, show j < n by omega]
theorem Ints.drop {k : IntKind} {w : World} {b off m cap : Nat} {xs : List Int} (n : Nat) (hn : n ≤ xs.length) (h : Ints k w (.slice (some ⟨b, off, none⟩) m cap) xs) (a : Option Addr)
    (ha : n < xs.length → a = some ⟨b, off + n, none⟩) (l : Nat) (hl : l = xs.length - n) (c : Nat) (hc : c = cap - n) : Ints k w (.slice a l c) (xs.drop n) := by
  obtain ⟨a', cap', e, h1, h2, h3⟩ := h
  injection e with e1 e2 e3
  subst e1; subst e3
  have hl' : (xs.drop n).length = l := by simp; omega
  refine ⟨a, c, by rw [hl'], by omega, by omega, fun hp => ?_⟩
  obtain ⟨b', off', ha', hb, hc'⟩ := h3 (by omega)
  injection ha' with ha'
  injection ha' with e4 e5
  subst e4; subst e5
  refine ⟨b, off + n, ha (by omega), hb, fun j hj => ?_⟩
  rw [Nat.add_assoc, hc' (n + j) (by omega)]
  simp [List.getD]
theorem U64s.take {xs : List Int} (h : U64s xs) (n : Nat) : U64s (xs.take n) := fun x hx => h x (List.mem_of_mem_take hx)
theorem U64s.drop {xs : List Int} (h : U64s xs) (n : Nat) : U64s (xs.drop n) := fun x hx => h x (List.mem_of_mem_drop hx)
section
variable {H : Type} {enc : TypeId × Value → H} {P : Program}
theorem post_of_below {f : Func} {s : ChangeSpec} {apart fresh handsOn again : Bool} {W W' : World} {args : Array Value} {v : Value} {ds gs : List (DataW H)} {before pa pv : List MemPlace}
    (hW : DataW.Whole enc P f.params.toList s.vars apart W args.toList ds gs before)
    (hres : ∀ (b : Nat) (sp : Nat → Bool) (hd : Bool), DataW.TrodAll enc P W' b sp hd f.resultTypes.toList (v.resultList f.resultTypes.size) (s.fn H (ds ++ gs)).results [])
    (hargs : ∀ sp : Nat → Bool, (∀ p ∈ before, sp p.block = true) → DataW.TrodAll enc P W' 0 sp true f.params.toList args.toList (s.fn H (ds ++ gs)).args pa)
    (hvars : ∀ sp : Nat → Bool, (∀ p ∈ before, sp p.block = true) → DataW.TrodVars enc P W' sp s.vars (s.fn H (ds ++ gs)).vars pv)
    (hps : before = pa ++ pv) (hb : Below W.heap.size W W')
    (hok : ∀ (j : Nat) (t : TypeId) (r : Value), f.resultTypes[j]? = some t → (v.resultList f.resultTypes.size)[j]? = some r → Value.okWide P W' .any 0 t r) :
    s.post enc P f apart fresh handsOn again W args v W' := by
  have hlt : ∀ p ∈ before, p.block < W.heap.size := fun p hp => hW.lt p hp
  have hold : ∀ p ∈ before, (fun b => decide (b < W.heap.size)) p.block = true := fun p hp => by simpa using hlt p hp
  refine ⟨ds, gs, before, [], pa, pv, hW, hres _ _ _, hargs _ hold, hvars _ hold, World.keptBut_mono (fun p hp => ⟨hp, ?_⟩) (hb.frame (· ∈ before)), fun _ => ?_⟩
  · rw [hps, List.mem_append] at hp
    exact Or.inr hp
  · obtain ⟨_, _, _, _, _, hz, hn⟩ := hW
    refine ⟨hok, _, _, ([] ++ pa) ++ pv, ⟨[] ++ pa, pv, trodAll_append (hargs _ (fun _ _ => rfl)) (hres _ _ _), hvars _ (fun _ _ => rfl), rfl, ?_, ?_⟩, ?_⟩
    · intro b off hp
      have hin : MemPlace.cell b off ∈ before := by rw [hps]; simpa using hp
      rw [hb.frozen (hlt _ hin)]
      exact hz b off hin
    · intro ha
      have := hn ha
      rw [hps] at this
      simpa using this
    · intro p hp _
      rw [hps]
      simpa using hp
theorem trodAll_stays (hl : laidOutB P = true) {W W' : World} {sp : Nat → Bool} : ∀ (ts : List TypeId) (vs : List Value) (ds : List (DataW H)) (ps : List MemPlace),
    (∀ t ∈ ts, P.readableRec t = true ∧ t < P.types.size) → DataW.TrodAll enc P W 0 (fun _ => true) true ts vs ds ps → (∀ p ∈ ps, W.sameAt W' p) → (∀ p ∈ ps, sp p.block = true) →
    DataW.TrodAll enc P W' 0 sp true ts vs ds ps
  | [], [], [], _, _, h, _, _ => h
  | t :: ts, v :: vs, d :: ds, ps, ht, h, hs, hp => by
    obtain ⟨p, q, h1, h2, rfl⟩ := h
    refine ⟨p, q, WideElems.Trod_stays hl (ht t (by simp)).1 (ht t (by simp)).2 h1 (fun x hx => hs x (by simp [hx])) (fun x hx => hp x (by simp [hx])), ?_, rfl⟩
    exact trodAll_stays hl ts vs ds q (fun t' h' => ht t' (by simp [h'])) h2 (fun x hx => hs x (by simp [hx])) (fun x hx => hp x (by simp [hx]))
  | [], _ :: _, _, _, _, h, _, _ => h.elim
  | [], [], _ :: _, _, _, h, _, _ => h.elim
  | _ :: _, [], _, _, _, h, _, _ => h.elim
  | _ :: _, _ :: _, [], _, _, h, _, _ => h.elim
theorem law_post {f : Func} {s : ChangeSpec} {apart fresh handsOn again : Bool} {W W' : World} {args : Array Value} {ds gs : List (DataW H)} {before : List MemPlace} {tb : TypeId}
    (hl : laidOutB P = true) (hts : f.params.toList.all (fun t => P.readableRec t && decide (t < P.types.size)) = true) (hr : f.resultTypes = #[tb]) (htb : P.underlying tb = some .bool) (hv : s.vars = [])
    (hfn : s.fn H (ds ++ gs) = { results := [.lit (.bool true)], args := ds })
    (hW : DataW.Whole enc P f.params.toList s.vars apart W args.toList ds gs before) (hb : Ext W W') :
    s.post enc P f apart fresh handsOn again W args (.bool true) W' := by
  have hts' : ∀ t ∈ f.params.toList, P.readableRec t = true ∧ t < P.types.size := fun t ht => by
    have := List.all_eq_true.1 hts t ht
    simpa using this
  have hW' := hW
  obtain ⟨p, q, hA, hV, rfl, hz, hn⟩ := hW
  have hq : q = [] := by
    rw [hv] at hV
    cases gs with
    | nil => exact hV
    | cons _ _ => exact hV.elim
  subst hq
  have hlt := hW'.lt
  refine post_of_below (pa := p) (pv := []) hW' ?_ ?_ ?_ rfl hb ?_
  · intro b sp hd
    rw [hfn, hr]
    exact trodAll_cons_mk (shut_bool htb _) trodAll_mk0
  · intro sp hsp
    rw [hfn]
    exact trodAll_stays hl _ _ _ _ hts' hA (fun x hx => hb.same (hlt x (by simp [hx]))) (fun x hx => hsp x (by simp [hx]))
  · intro sp _
    rw [hfn, hv]
    rfl
  · rw [hr]
    intro j t r hj hv'
    match j, hj, hv' with
    | 0, hj, hv' =>
      simp [Value.resultList] at hj hv'
      subst hj; subst hv'
      exact okWide_bool_mk htb _
    | j + 1, hj, _ => simp at hj
end
end Go.Proofs.YthomeenmcajmdaaGreatDoor
namespace Go.Proofs.YthomeenmcajmdaaGreatDoor
open Go.RowKit
def rightB (p : Int) : Bool := decide (2 ≤ p ∧ p ≤ 9223372036854775807)
theorem rightB_true {p : Int} (h : rightB p = true) : 2 ≤ p ∧ p ≤ 9223372036854775807 := by simpa [rightB] using h
theorem rightB_mk {p : Int} (h : 2 ≤ p ∧ p ≤ 9223372036854775807) : rightB p = true := by simpa [rightB] using h
def hasB (p : Int) (xs : List Int) : Bool := rightB p && xs.all fun x => decide (x < p)
theorem hasB_true {p : Int} {xs : List Int} (h : hasB p xs = true) : rightB p = true ∧ ∀ x ∈ xs, x < p := by
  simpa [hasB] using h
theorem hasB_mk {p : Int} {xs : List Int} (h : rightB p = true) (h' : ∀ x ∈ xs, x < p) : hasB p xs = true := by
  simpa [hasB] using ⟨h, h'⟩
theorem hasB_one {p a : Int} (h : rightB p = true) (h' : a < p) : hasB p [a] = true := hasB_mk h (by simpa using h')
theorem hasB_two {p a b : Int} (h : rightB p = true) (h' : a < p) (h'' : b < p) : hasB p [a, b] = true := hasB_mk h (by simpa using ⟨h', h''⟩)
theorem hasB_no {p : Int} {xs : List Int} (k : Nat) (hk : k < xs.length) (h : p ≤ xs.getD k 0) : hasB p xs = false := by
  cases e : hasB p xs with
  | false => rfl
  | true =>
    have := (hasB_true e).2 (xs.getD k 0) (by simp [List.getD, List.getElem?_eq_getElem hk])
    omega
set_option maxHeartbeats 400000 in
theorem right_any (p : Int) (w : World) (h0 : 0 ≤ p) (h1 : p ≤ 18446744073709551615) :
    Calls Tryz.prog 37 #[.int .u64 p] w fun e w' => e = .returned (.bool (rightB p)) ∧ w = w' := by
  by_cases h : 2 ≤ p
  · by_cases h' : p < 9223372036854775808
    all_goals
      go_enter Tryz.func37, Tryz.ntmps37
      go_wp2
      go_ret
      exact ⟨ret_bool (by simp [rightB]; omega), rfl⟩
  · go_enter Tryz.func37, Tryz.ntmps37
    go_wp2
    go_ret
    exact ⟨ret_bool (by simp [rightB]; omega), rfl⟩
set_option maxHeartbeats 400000 in
theorem has_any (p : Int) (v : Value) (xs : List Int) (w : World) (h0 : 0 ≤ p) (h1 : p ≤ 18446744073709551615) (hv : Ints .u64 w v xs) (hx : U64s xs) :
    Calls Tryz.prog 60 #[.int .u64 p, v] w fun e w' => e = .returned (.bool (hasB p xs)) ∧ w = w' := by
  obtain ⟨a, cap, rfl, hc1, hc2, hc⟩ := hv
  have Hc := hid hc; clear hc
  have Hx := hid hx; clear hx
  go_enter Tryz.func60, Tryz.ntmps60
  go_wp2_with (go_at_call 37; refine (right_any _ _ h0 h1).mono ?_; rintro e w' ⟨rfl, rfl⟩)
  go_loop [9] (fun i => ∃ k : Nat, k ≤ xs.length ∧ i = .int .i64 k ∧ ∀ j, j < k → xs.getD j 0 < p) (fun i => xs.length - (intOf i).toNat)
  case atStart => exact ⟨0, Nat.zero_le _, rfl, by simp⟩
  case round =>
    obtain ⟨k, hk, rfl, hall⟩ := hrel
    have Ha := hid hall; clear hall
    by_cases hlt : k < xs.length
    · obtain ⟨b, off, rfl, hb, hcell⟩ := Hc.out (by omega)
      have g := hcell k hlt
      have hg := U64s.get Hx.out hlt
      clear hcell
      have hn := hasB_no (p := p) k hlt
      generalize hxk : xs.getD k 0 = x at g hg hn
      have Hxk := hid hxk; clear hxk
      have Hn := hid hn; clear hn Hc
      by_cases hp : p ≤ x
      · replace Hn := hid (Hn.out hp)
        go_wp2
        go_ret
        exact ⟨ret_bool (by rw [Hn.out]), rfl⟩
      · go_wp2
        go_round
        case rel => exact ⟨k + 1, by omega, by go_num, fun j hj => by
          by_cases e : j = k
          · rw [e, Hxk.out]; omega
          · exact Ha.out j (by omega)⟩
        case measure => simp [intOf]; omega
    · have hall : ∀ x ∈ xs, x < p := by
        intro x hx
        obtain ⟨j, hj, rfl⟩ := List.mem_iff_getElem.1 hx
        have := Ha.out j (by omega)
        simpa [List.getD, List.getElem?_eq_getElem hj] using this
      have e : hasB p xs = rightB p := by
        unfold hasB
        rw [List.all_eq_true.2 (fun x hx => by simpa using hall x hx), Bool.and_true]
      have He := hid e; clear e hall
      go_wp2_with (go_at_call 37; refine (right_any _ _ h0 h1).mono ?_; rintro e w' ⟨rfl, rfl⟩)
      go_ret
      exact ⟨ret_bool He.out.symm, rfl⟩
theorem mod_less {p a : Int} (h0 : 0 ≤ a) (h : a < 2 * p) : a % p = if p ≤ a then a - p else a := by
  split
  · rw [← Int.sub_emod_right, Int.emod_eq_of_lt (by omega) (by omega)]
  · exact Int.emod_eq_of_lt h0 (by omega)
set_option maxHeartbeats 400000 in
theorem less_any (p a : Int) (w : World) (hp0 : 0 < p) (hp : p ≤ 9223372036854775807) (ha0 : 0 ≤ a) (ha : a < 2 * p) :
    Calls Tryz.prog 83 #[.int .u64 p, .int .u64 a] w fun e w' => e = .returned (.int .u64 (a % p)) ∧ w = w' := by
  have hm := mod_less ha0 ha
  by_cases h : p ≤ a
  · rw [if_pos h] at hm
    have Hm := hid hm; clear hm
    go_enter Tryz.func83, Tryz.ntmps83
    go_wp2
    go_ret
    exact ⟨ret_int Hm.out.symm, rfl⟩
  · rw [if_neg h] at hm
    have Hm := hid hm; clear hm
    go_enter Tryz.func83, Tryz.ntmps83
    go_wp2
    go_ret
    exact ⟨ret_int Hm.out.symm, rfl⟩
set_option maxHeartbeats 400000 in
theorem left_any (p hi lo : Int) (w : World) (h0 : 0 ≤ hi) (h1 : hi < p) (hp : p ≤ 18446744073709551615) (hl0 : 0 ≤ lo) (hl : lo ≤ 18446744073709551615) :
    Calls Tryz.prog 84 #[.int .u64 p, .int .u64 hi, .int .u64 lo] w fun e w' => e = .returned (.int .u64 ((hi * 18446744073709551616 + lo) % p)) ∧ ∃ n, w' = w.drewN n := by
  by_cases h : 0 < hi
  · go_enter Tryz.func84, Tryz.ntmps84
    go_wp2_with (go_at_call 108; refine (div64_hi _ _ _ _ h h1 hp hl0 hl).mono ?_; rintro e w' ⟨rfl, rfl⟩)
    go_ret
    exact ⟨rfl, 0, rfl⟩
  · obtain rfl : hi = 0 := by omega
    go_enter Tryz.func84, Tryz.ntmps84
    go_wp2_with (go_at_call 108; refine (div64_lo _ _ _ (by omega) hp hl0 hl).mono ?_; rintro e w' ⟨rfl, n, rfl⟩)
    go_ret
    exact ⟨ret_int (by simp), n, rfl⟩
theorem half_lt {p a b : Int} (ha0 : 0 ≤ a) (ha : a ≤ 18446744073709551615) (hb0 : 0 ≤ b) (hb : b ≤ 18446744073709551615) (hp : 0 < p) (h : a < p ∨ b < p) : 0 ≤ a * b / 18446744073709551616 ∧ a * b / 18446744073709551616 < p := by
  have hab := Int.mul_nonneg ha0 hb0
  refine ⟨by omega, ?_⟩
  rcases h with h | h
  · have h1 := Int.mul_le_mul_of_nonneg_left hb ha0
    omega
  · have h1 := Int.mul_le_mul_of_nonneg_right ha hb0
    omega
set_option maxHeartbeats 400000 in
theorem times_any (p a b : Int) (w : World) (hp0 : 0 < p) (hp : p ≤ 18446744073709551615) (ha0 : 0 ≤ a) (ha : a ≤ 18446744073709551615) (hb0 : 0 ≤ b) (hb : b ≤ 18446744073709551615) (h : a < p ∨ b < p) :
    Calls Tryz.prog 135 #[.int .u64 p, .int .u64 a, .int .u64 b] w fun e w' => e = .returned (.int .u64 (a * b % p)) ∧ ∃ n, w' = w.drewN n := by
  have hh := half_lt ha0 ha hb0 hb hp0 h
  have h2 : 0 ≤ a * b % 18446744073709551616 ∧ a * b % 18446744073709551616 ≤ 18446744073709551615 := by omega
  have h3 := Int.ediv_mul_add_emod (a * b) 18446744073709551616
  have H3 := hid h3; clear h3
  go_enter Tryz.func135, Tryz.ntmps135
  go_wp2_with (first
    | (go_at_call 81; refine (mul64_any _ _ _ ha0 ha hb0 hb).mono ?_; rintro e w' ⟨rfl, rfl⟩)
    | (go_at_call 84; refine (left_any _ _ _ _ hh.1 hh.2 hp h2.1 h2.2).mono ?_; rintro e w' ⟨rfl, n, rfl⟩))
  go_ret
  exact ⟨ret_int (by rw [H3.out]), n, rfl⟩
theorem has_yes (p : Int) (v : Value) (xs : List Int) (w : World) (hv : Ints .u64 w v xs) (hx : U64s xs) (h : hasB p xs = true) :
    Calls Tryz.prog 60 #[.int .u64 p, v] w fun e w' => e = .returned (.bool true) ∧ w = w' := by
  have hp := rightB_true (hasB_true h).1
  exact (has_any p v xs w (by omega) (by omega) hv hx).mono fun e w' ⟨he, hw⟩ => ⟨by rw [he, h], hw⟩
theorem has_no (p : Int) (v : Value) (xs : List Int) (w : World) (h0 : 0 ≤ p) (h1 : p ≤ 18446744073709551615) (hv : Ints .u64 w v xs) (hx : U64s xs) (h : hasB p xs = false) :
    Calls Tryz.prog 60 #[.int .u64 p, v] w fun e w' => e = .returned (.bool false) ∧ w = w' :=
  (has_any p v xs w h0 h1 hv hx).mono fun e w' ⟨he, hw⟩ => ⟨by rw [he, h], hw⟩
set_option maxHeartbeats 400000 in
theorem sub_yes (p a b : Int) (w : World) (hp : rightB p = true) (ha0 : 0 ≤ a) (ha : a < p) (hb0 : 0 ≤ b) (hb : b < p) :
    Calls Tryz.prog 113 #[.int .u64 p, .int .u64 a, .int .u64 b] w (Ret (.tuple #[.int .u64 ((a - b) % p), .int .i64 0]) w) := by
  have hp2 := rightB_true hp
  have hh := hid (hasB_two hp ha hb)
  have e1 : (a + p - b) % p = (a - b) % p := by rw [show a + p - b = a - b + p by omega, Int.add_emod_right]
  have E1 := hid e1; clear e1
  clear hp
  go_enter Tryz.func113, Tryz.ntmps113
  go_wp2_with fail
  refine (has_yes _ _ [a, b] _ Ints.new2 (U64s.cons (by omega) (by omega) (U64s.one (by omega) (by omega))) hh.out).mono ?_
  rintro e w' ⟨rfl, rfl⟩
  go_wp2_with fail
  refine (less_any _ _ _ (by omega) (by omega) (by omega) (by omega)).mono ?_; rintro e w' ⟨rfl, rfl⟩
  go_wp2_with fail
  go_ret2
  exact ⟨by rw [← E1.out]; rfl, (by repeat (first | exact Ext.refl _ | assumption | refine Ext.drew ?_ | refine Ext.drewN ?_ _ | refine Ext.alloc ?_ _ | refine Ext.trans ?_ (by assumption)))⟩
set_option maxHeartbeats 400000 in
theorem mul_yes (p a b : Int) (w : World) (hp : rightB p = true) (ha0 : 0 ≤ a) (ha : a < p) (hb0 : 0 ≤ b) (hb : b < p) :
    Calls Tryz.prog 103 #[.int .u64 p, .int .u64 a, .int .u64 b] w (Ret (.tuple #[.int .u64 (a * b % p), .int .i64 0]) w) := by
  have hp2 := rightB_true hp
  have hh := hid (hasB_two hp ha hb)
  clear hp
  go_enter Tryz.func103, Tryz.ntmps103
  go_wp2_with fail
  refine (has_yes _ _ [a, b] _ Ints.new2 (U64s.cons (by omega) (by omega) (U64s.one (by omega) (by omega))) hh.out).mono ?_
  rintro e w' ⟨rfl, rfl⟩
  go_wp2_with fail
  refine (times_any _ _ _ _ (by omega) (by omega) (by omega) (by omega) (by omega) (by omega) (.inl ha)).mono ?_; rintro e w' ⟨rfl, n, rfl⟩
  go_wp2_with fail
  go_ret2
  exact ⟨rfl, (by repeat (first | exact Ext.refl _ | assumption | refine Ext.drew ?_ | refine Ext.drewN ?_ _ | refine Ext.alloc ?_ _ | refine Ext.trans ?_ (by assumption)))⟩
theorem and_one (n : Int) (h0 : 0 ≤ n) (h : n ≤ 18446744073709551615) : bits .and .u64 n 1 = n % 2 := by
  rw [u64_and n 1 h0 (by omega) (by omega) (by omega)]
  show ((n.toNat &&& 1 : Nat) : Int) = n % 2
  rw [Nat.and_one_is_mod]; omega
set_option maxHeartbeats 400000 in
theorem pow_yes (p a n : Int) (w : World) (hp : rightB p = true) (ha0 : 0 ≤ a) (ha : a < p) (hn0 : 0 ≤ n) (hn : n ≤ 18446744073709551615) :
    Calls Tryz.prog 123 #[.int .u64 p, .int .u64 a, .int .u64 n] w (Ret (.tuple #[.int .u64 (mpow p a n), .int .i64 0]) w) := by
  have hp2 := rightB_true hp
  have hh := hid (hasB_one hp ha)
  clear hp
  go_enter Tryz.func123, Tryz.ntmps123
  go_wp2_with fail
  refine (has_yes _ _ [a] _ Ints.new1 (U64s.one (by omega) (by omega)) hh.out).mono ?_
  rintro e w' ⟨rfl, rfl⟩
  go_wp2_with fail
  go_loopw [8, 1, 2] (fun v x m wr => ∃ P A N : Int, v = .int .u64 P ∧ x = .int .u64 A ∧ m = .int .u64 N ∧ 0 ≤ P ∧ P < p ∧ 0 ≤ A ∧ A < p ∧ 0 ≤ N ∧ N ≤ 18446744073709551615 ∧ P * A ^ N.toNat % p = mpow p a n ∧ Ext w wr) (fun _ _ m _ => (intOf m).toNat)
  case atStart => exact ⟨1, a, n, rfl, rfl, rfl, by omega, by omega, ha0, ha, hn0, hn, by rw [Int.one_mul]; rfl, (by repeat (first | exact Ext.refl _ | assumption | refine Ext.drew ?_ | refine Ext.drewN ?_ _ | refine Ext.alloc ?_ _ | refine Ext.trans ?_ (by assumption)))⟩
  case round =>
    obtain ⟨P, A, N, rfl, rfl, rfl, hP0, hP, hA0, hA, hN0, hN, he, hw⟩ := hrel
    have He := hid he; clear he
    by_cases h0 : 0 < N
    · have ho := and_one N hN0 hN
      have hs := mpow_step (p := p) (P := P) (A := A) hN0
      rw [He.out] at hs
      have hr1 := mod_range (A * A) hp2.1
      have hr2 := mod_range (P * A) hp2.1
      by_cases h1 : N % 2 = 1
      · rw [h1, show (1 : Int).toNat = 1 from rfl, Int.pow_succ, Int.pow_zero, Int.one_mul, Int.mul_right_comm, ← mm_l] at hs
        have Hs := hid hs; clear hs
        have t1 : (N % 2 == 1) = true := by simp [h1]
        clear h1
        go_wp2_with (go_at_call 135; refine (times_any p _ _ _ (by omega) (by omega) (by omega) (by omega) (by omega) (by omega) (by omega)).mono ?_; rintro e w' ⟨rfl, m, rfl⟩)
        go_roundw
        case rel => exact ⟨_, _, _, rfl, rfl, rfl, by omega, by omega, by omega, by omega, by omega, by omega, Hs.out, (by repeat (first | exact Ext.refl _ | assumption | refine Ext.drew ?_ | refine Ext.drewN ?_ _ | refine Ext.alloc ?_ _ | refine Ext.trans ?_ (by assumption)))⟩
        case measure => simp [intOf]; omega
      · rw [show N % 2 = 0 by omega, show (0 : Int).toNat = 0 from rfl, Int.pow_zero, Int.mul_one] at hs
        have Hs := hid hs; clear hs
        have t1 : (N % 2 == 1) = false := by simp; omega
        clear h1
        go_wp2_with (go_at_call 135; refine (times_any p _ _ _ (by omega) (by omega) (by omega) (by omega) (by omega) (by omega) (by omega)).mono ?_; rintro e w' ⟨rfl, m, rfl⟩)
        go_roundw
        case rel => exact ⟨_, _, _, rfl, rfl, rfl, by omega, by omega, by omega, by omega, by omega, by omega, Hs.out, (by repeat (first | exact Ext.refl _ | assumption | refine Ext.drew ?_ | refine Ext.drewN ?_ _ | refine Ext.alloc ?_ _ | refine Ext.trans ?_ (by assumption)))⟩
        case measure => simp [intOf]; omega
    · obtain rfl : N = 0 := by omega
      have h2 := He.out
      rw [show (0 : Int).toNat = 0 from rfl, Int.pow_zero, Int.mul_one, mod_small hP0 hP] at h2
      have H2 := hid h2; clear h2
      go_wp2_with fail
      go_ret2
      exact ⟨by rw [← H2.out]; rfl, (by repeat (first | exact Ext.refl _ | assumption | refine Ext.drew ?_ | refine Ext.drewN ?_ _ | refine Ext.alloc ?_ _ | refine Ext.trans ?_ (by assumption)))⟩
theorem pow_no (p a n : Int) (w : World) (hp0 : 0 ≤ p) (hp : p ≤ 18446744073709551615) (ha0 : 0 ≤ a) (ha : a ≤ 18446744073709551615) (h : hasB p [a] = false) :
    Calls Tryz.prog 123 #[.int .u64 p, .int .u64 a, .int .u64 n] w (Ret (.tuple #[.int .u64 0, .int .i64 1]) w) := by
  have hh := hid h
  clear h
  go_enter Tryz.func123, Tryz.ntmps123
  go_wp2_with fail
  refine (has_no _ _ [a] _ hp0 hp Ints.new1 (U64s.one ha0 ha) hh.out).mono ?_
  rintro e w' ⟨rfl, rfl⟩
  go_wp2_with fail
  go_ret2
  exact ⟨rfl, (by repeat (first | exact Ext.refl _ | assumption | refine Ext.drew ?_ | refine Ext.drewN ?_ _ | refine Ext.alloc ?_ _ | refine Ext.trans ?_ (by assumption)))⟩
set_option maxHeartbeats 400000 in
theorem inv_both (p a : Int) (w : World) (hp : rightB p = true) (ha0 : 0 ≤ a) (ha : a < p) :
    Calls Tryz.prog 107 #[.int .u64 p, .int .u64 a] w (Ret (if unitB p a then .tuple #[.int .u64 (minv p a), .int .i64 0] else .tuple #[.int .u64 0, .int .i64 5]) w) := by
  have hp2 := rightB_true hp
  have hh := hid (hasB_one hp ha)
  clear hp
  generalize hR : (if unitB p a then Value.tuple #[.int .u64 (minv p a), .int .i64 0] else .tuple #[.int .u64 0, .int .i64 5]) = R
  have HR := hid hR; clear hR
  go_enter Tryz.func107, Tryz.ntmps107
  go_wp2_with fail
  refine (has_yes _ _ [a] _ Ints.new1 (U64s.one (by omega) (by omega)) hh.out).mono ?_
  rintro e w' ⟨rfl, rfl⟩
  go_wp2_with fail
  go_loopw [6, 7, 8, 9] (fun v6 v7 v8 v9 wr => ∃ l n s t : Int, v6 = .int .u64 l ∧ v7 = .int .u64 n ∧ v8 = .int .u64 s ∧ v9 = .int .u64 t ∧ 0 < l ∧ l ≤ p ∧ 0 ≤ n ∧ n < l ∧ 0 ≤ s ∧ s < p ∧ 0 ≤ t ∧ t < p ∧
    a * s % p = l % p ∧ a * t % p = n % p ∧ Int.gcd l n = Int.gcd p a ∧ Ext w wr) (fun _ v7 _ _ _ => (intOf v7).toNat)
  case atStart => exact ⟨p, a, 0, 1, rfl, rfl, rfl, rfl, by omega, by omega, ha0, ha, by omega, by omega, by omega, by omega, by simp, by simp, rfl, (by repeat (first | exact Ext.refl _ | assumption | refine Ext.drew ?_ | refine Ext.drewN ?_ _ | refine Ext.alloc ?_ _ | refine Ext.trans ?_ (by assumption)))⟩
  case round =>
    obtain ⟨l, n, s, t, rfl, rfl, rfl, rfl, hl0, hl, hn0, hn, hs0, hs, ht0, ht, h1, h2, h3, hw⟩ := hrel
    have H1 := hid h1; have H2 := hid h2; have H3 := hid h3; clear h1 h2 h3
    by_cases h0 : 0 < n
    · have hq0 : 0 ≤ l / n := Int.ediv_nonneg (by omega) (by omega)
      have hq1 : l / n ≤ l := Int.ediv_le_self _ (by omega)
      have hm := Int.emod_nonneg l (show n ≠ 0 by omega)
      have hm2 := Int.emod_lt_of_pos l h0
      have hn1 : n ≠ 0 := by omega
      have r1 := mod_range (l / n * t) hp2.1
      have r2 := mod_range (s + p - l / n * t) hp2.1
      have e1 : (s + p - l / n * t) % p = (s - l / n * t) % p := by rw [show s + p - l / n * t = s - l / n * t + p by omega, Int.add_emod_right]
      have E1 := hid e1; clear e1
      have hrd := inv_round H1.out H2.out
      rw [← E1.out] at hrd
      have Hrd := hid hrd; clear hrd
      have hgs := gcd_step (a := l) (b := n) (by omega) hn0
      have Hgs := hid hgs; clear hgs
      go_wp2_with fail
      go_quiet (fail)
      go_wp2_with fail
      refine (times_any p _ _ _ (by omega) (by omega) (by omega) (by omega) (by omega) (by omega) (.inr ht)).mono ?_
      rintro e w' ⟨rfl, m, rfl⟩
      go_wp2_with fail
      refine (less_any p _ _ (by omega) (by omega) (by omega) (by omega)).mono ?_
      rintro e w' ⟨rfl, rfl⟩
      go_wp2_with fail
      go_roundw
      case rel => exact ⟨_, _, _, _, rfl, rfl, rfl, rfl, h0, by omega, hm, hm2, ht0, ht, r2.1, r2.2, H2.out, Hrd.out, by rw [Hgs.out, H3.out], (by repeat (first | exact Ext.refl _ | assumption | refine Ext.drew ?_ | refine Ext.drewN ?_ _ | refine Ext.alloc ?_ _ | refine Ext.trans ?_ (by assumption)))⟩
      case measure => simp [intOf]; omega
    · obtain rfl : n = 0 := by omega
      have h4 := inv_last (p := p) (a := a) (by omega) H3.out
      by_cases h1 : l = 1
      · subst h1
        have h5 := minv_eq hs0 hs (H1.out.trans (mod_small (by omega) (by omega)))
        rw [h4] at HR
        have h6 := HR.out
        rw [h5] at h6
        simp only [decide_true, if_true] at h6
        clear h4 h5
        have H6 := hid h6; clear h6
        go_wp2_with fail
        go_ret2
        exact ⟨by rw [← H6.out]; rfl, (by repeat (first | exact Ext.refl _ | assumption | refine Ext.drew ?_ | refine Ext.drewN ?_ _ | refine Ext.alloc ?_ _ | refine Ext.trans ?_ (by assumption)))⟩
      · have h6 := HR.out
        rw [h4, decide_eq_false h1] at h6
        simp only [Bool.false_eq_true, if_false] at h6
        clear h4
        have H6 := hid h6; clear h6
        have t1 : (l == 1) = false := by simpa using h1
        go_wp2_with fail
        go_ret2
        exact ⟨by rw [← H6.out]; rfl, (by repeat (first | exact Ext.refl _ | assumption | refine Ext.drew ?_ | refine Ext.drewN ?_ _ | refine Ext.alloc ?_ _ | refine Ext.trans ?_ (by assumption)))⟩
theorem inv_yes (p a : Int) (w : World) (hp : rightB p = true) (ha0 : 0 ≤ a) (ha : a < p) (hu : unitB p a = true) :
    Calls Tryz.prog 107 #[.int .u64 p, .int .u64 a] w (Ret (.tuple #[.int .u64 (minv p a), .int .i64 0]) w) := by
  have := inv_both p a w hp ha0 ha
  rwa [hu, if_pos rfl] at this
theorem sub_as (p a b r : Int) (w : World) (hp : rightB p = true) (ha0 : 0 ≤ a) (ha : a < p) (hb0 : 0 ≤ b) (hb : b < p) (h : (a - b) % p = r) :
    Calls Tryz.prog 113 #[.int .u64 p, .int .u64 a, .int .u64 b] w (Ret (.tuple #[.int .u64 r, .int .i64 0]) w) := h ▸ sub_yes p a b w hp ha0 ha hb0 hb
theorem mul_as (p a b r : Int) (w : World) (hp : rightB p = true) (ha0 : 0 ≤ a) (ha : a < p) (hb0 : 0 ≤ b) (hb : b < p) (h : a * b % p = r) :
    Calls Tryz.prog 103 #[.int .u64 p, .int .u64 a, .int .u64 b] w (Ret (.tuple #[.int .u64 r, .int .i64 0]) w) := h ▸ mul_yes p a b w hp ha0 ha hb0 hb
theorem inv_as (p a r : Int) (w : World) (hp : rightB p = true) (ha0 : 0 ≤ a) (ha : a < p) (hu : unitB p a = true) (h : minv p a = r) :
    Calls Tryz.prog 107 #[.int .u64 p, .int .u64 a] w (Ret (.tuple #[.int .u64 r, .int .i64 0]) w) := h ▸ inv_yes p a w hp ha0 ha hu
theorem name_mod {p : Int} (a : Int) (hp : 2 ≤ p) : ∃ r, a % p = r ∧ 0 ≤ r ∧ r < p := ⟨_, rfl, mod_range a hp⟩
end Go.Proofs.YthomeenmcajmdaaGreatDoor
namespace Go.Proofs.YthomeenmcajmdaaGreatDoor
variable {p : Int}
namespace Ser
def low (a : Ser p) (n : Nat) : Prop := ∀ k, n ≤ k → a.co k = 0
def poly (a : Ser p) : Prop := ∃ n, a.low n
theorem low.mono {a : Ser p} {m n : Nat} (h : a.low m) (hn : m ≤ n) : a.low n := fun k hk => h k (by omega)
theorem low.add {a b : Ser p} {n : Nat} (h : a.low n) (h' : b.low n) : (a + b).low n := fun k hk => by rw [add_co, h k hk, h' k hk]; simp
theorem low.sub {a b : Ser p} {n : Nat} (h : a.low n) (h' : b.low n) : (a - b).low n := fun k hk => by rw [sub_co, h k hk, h' k hk]; simp
theorem low_zero (n : Nat) : (0 : Ser p).low n := fun k _ => zero_co k
theorem low_C (c : Int) : (C p c).low 1 := fun k hk => by rw [C_co, if_neg (by omega)]
theorem low.zero {a : Ser p} (h : a.low 0) : a = 0 := ext_ fun k => by rw [h k (by omega), zero_co]
theorem mul_top {a b : Ser p} {m n : Nat} (h : a.low (m + 1)) (h' : b.low (n + 1)) : (a * b).co (m + n) = a.co m * b.co n % p ∧ (a * b).low (m + n + 1) := by
  refine ⟨?_, fun k hk => ?_⟩
  · rw [mul_co, cv, sm_piece m 1 (by omega) (fun i hi => by rw [h' _ (by omega), Int.mul_zero]) (fun i h1 h2 => by rw [h _ (by omega), Int.zero_mul])]
    simp [sm]
  · rw [mul_co, cv, sm_zero fun i hi => ?_, Int.zero_emod]
    rcases Nat.lt_or_ge i (m + 1) with h1 | h1
    · rw [h' _ (by omega), Int.mul_zero]
    · rw [h _ h1, Int.zero_mul]
theorem low.mul {a b : Ser p} {m n : Nat} (h : a.low m) (h' : b.low n) : (a * b).low (m + n - 1) := by
  cases m with
  | zero => rw [h.zero, zero_mul]; exact low_zero _
  | succ m =>
    cases n with
    | zero => rw [h'.zero, mul_zero]; exact low_zero _
    | succ n => exact (mul_top h h').2.mono (by omega)
theorem poly.add {a b : Ser p} (h : a.poly) (h' : b.poly) : (a + b).poly := by
  obtain ⟨m, h⟩ := h; obtain ⟨n, h'⟩ := h'
  exact ⟨max m n, (h.mono (by omega)).add (h'.mono (by omega))⟩
theorem poly.sub {a b : Ser p} (h : a.poly) (h' : b.poly) : (a - b).poly := by
  obtain ⟨m, h⟩ := h; obtain ⟨n, h'⟩ := h'
  exact ⟨max m n, (h.mono (by omega)).sub (h'.mono (by omega))⟩
theorem poly.mul {a b : Ser p} (h : a.poly) (h' : b.poly) : (a * b).poly := by
  obtain ⟨m, h⟩ := h; obtain ⟨n, h'⟩ := h'
  exact ⟨_, h.mul h'⟩
theorem poly_C (c : Int) : (C p c).poly := ⟨1, low_C c⟩
theorem poly_zero : (0 : Ser p).poly := ⟨0, low_zero 0⟩
theorem poly_one : (1 : Ser p).poly := poly_C 1
theorem poly.top {a : Ser p} (h : a.poly) (h0 : a ≠ 0) : ∃ d, a.co d ≠ 0 ∧ a.low (d + 1) := by
  obtain ⟨n, h⟩ := h
  induction n with
  | zero => exact absurd h.zero h0
  | succ n ih =>
    by_cases e : a.co n = 0
    · exact ih fun k hk => by
        rcases Nat.lt_or_ge n k with h1 | h1
        · exact h k (by omega)
        · rw [show k = n by omega]; exact e
    · exact ⟨n, e, h⟩
theorem co_range (a : Ser p) (hp : 2 ≤ p) (k : Nat) : 0 ≤ a.co k ∧ a.co k < p := by rw [← a.ok k]; exact mod_range _ hp
theorem div_unique {q b r : Ser p} {n : Nat} (hb : b.low (n + 1)) {i : Int} (hi : b.co n * i % p = 1) (hq : q.poly) (hr : r.low n) (h : q * b + r = 0) : q = 0 ∧ r = 0 := by
  have h0 : q = 0 := by
    obtain ⟨m, hm⟩ := hq
    induction m with
    | zero => exact hm.zero
    | succ m ih =>
      refine ih fun k hk => ?_
      rcases Nat.lt_or_ge m k with h1 | h1
      · exact hm k (by omega)
      obtain rfl : k = m := by omega
      have e := congrArg (fun s : Ser p => s.co (k + n)) h
      simp only [add_co, zero_co, (mul_top hm hb).1, hr (k + n) (by omega), Int.add_zero] at e
      rw [Int.emod_emod_of_dvd _ (Int.dvd_refl _)] at e
      have e2 : q.co k * (b.co n * i) % p = 0 := by rw [← Int.mul_assoc, ← mm_l, e]; simp
      rw [← mm_r, hi, Int.mul_one, q.ok] at e2
      exact e2
  refine ⟨h0, ?_⟩
  rw [h0, zero_mul, zero_add] at h
  exact h
end Ser
def pol (p : Int) (xs : List Int) : Ser p := .of p fun k => xs.getD k 0
theorem pol_co (xs : List Int) (k : Nat) : (pol p xs).co k = xs.getD k 0 % p := rfl
theorem getD_over {xs : List Int} {k : Nat} (h : xs.length ≤ k) : xs.getD k 0 = 0 := by simp [List.getD, List.getElem?_eq_none h]
theorem pol_low (xs : List Int) : (pol p xs).low xs.length := fun k hk => by rw [pol_co, getD_over hk]; simp
theorem pol_poly (xs : List Int) : (pol p xs).poly := ⟨_, pol_low xs⟩
theorem pol_nil : pol p [] = 0 := (pol_low []).zero
theorem pol_single (c : Int) : pol p [c] = Ser.C p c := Ser.ext_ fun k => by
  rw [pol_co, Ser.C_co]
  cases k <;> simp
def Rng (p : Int) (xs : List Int) : Prop := ∀ x ∈ xs, 0 ≤ x ∧ x < p
theorem Rng.get {xs : List Int} (h : Rng p xs) {k : Nat} (hk : k < xs.length) : 0 ≤ xs.getD k 0 ∧ xs.getD k 0 < p := by
  have e : xs.getD k 0 = xs[k] := by simp [List.getD, List.getElem?_eq_getElem hk]
  rw [e]; exact h _ (List.getElem_mem hk)
theorem Rng.getD {xs : List Int} (h : Rng p xs) (hp : 2 ≤ p) (k : Nat) : 0 ≤ xs.getD k 0 ∧ xs.getD k 0 < p := by
  rcases Nat.lt_or_ge k xs.length with h1 | h1
  · exact h.get h1
  · rw [getD_over h1]; omega
theorem Rng.co {xs : List Int} (h : Rng p xs) (k : Nat) : (pol p xs).co k = xs.getD k 0 := by
  rcases Nat.lt_or_ge k xs.length with h1 | h1
  · exact mod_small (h.get h1).1 (h.get h1).2
  · rw [pol_co, getD_over h1]; simp
theorem Rng.nil : Rng p [] := fun x hx => by simp at hx
theorem Rng.take {xs : List Int} (h : Rng p xs) (n : Nat) : Rng p (xs.take n) := fun x hx => h x (List.mem_of_mem_take hx)
theorem Rng.one {c : Int} (h0 : 0 ≤ c) (h : c < p) : Rng p [c] := fun x hx => by
  obtain rfl : x = c := by simpa using hx
  exact ⟨h0, h⟩
theorem Rng.u64 {xs : List Int} (h : Rng p xs) (hp : p ≤ 9223372036854775807) : U64s xs := fun x hx => by have := h x hx; omega
theorem Rng.has {xs : List Int} (h : Rng p xs) (hp : rightB p = true) : hasB p xs = true := hasB_mk hp fun x hx => (h x hx).2
theorem Rng.of_get {xs : List Int} (h : ∀ k, k < xs.length → 0 ≤ xs.getD k 0 ∧ xs.getD k 0 < p) : Rng p xs := fun x hx => by
  obtain ⟨j, hj, rfl⟩ := List.mem_iff_getElem.1 hx
  have := h j hj
  simpa [List.getD, List.getElem?_eq_getElem hj] using this
structure Pol (p : Int) (xs : List Int) : Prop where
  rng : Rng p xs
  top : 0 < xs.length → xs.getD (xs.length - 1) 0 ≠ 0
theorem Pol.nil : Pol p [] := ⟨Rng.nil, fun h => by simp at h⟩
theorem Pol.one {c : Int} (h0 : 0 < c) (h : c < p) : Pol p [c] := ⟨Rng.one (by omega) h, fun _ => by simp; omega⟩
theorem Pol.len_le {xs : List Int} (h : Pol p xs) {n : Nat} (hl : (pol p xs).low n) : xs.length ≤ n := by
  apply Classical.byContradiction
  intro hn
  have := hl (xs.length - 1) (by omega)
  rw [h.rng.co] at this
  exact h.top (by omega) this
theorem Pol.inj {xs ys : List Int} (h : Pol p xs) (h' : Pol p ys) (e : pol p xs = pol p ys) : xs = ys := by
  have h1 : xs.length ≤ ys.length := h.len_le (e ▸ pol_low ys)
  have h2 : ys.length ≤ xs.length := h'.len_le (e ▸ pol_low xs)
  refine List.ext_getElem (by omega) fun k h3 h4 => ?_
  have := congrArg (fun s : Ser p => s.co k) e
  simp only [h.rng.co, h'.rng.co] at this
  simpa [List.getD, List.getElem?_eq_getElem h3, List.getElem?_eq_getElem h4] using this
theorem Pol.zero {xs : List Int} (h : Pol p xs) (e : pol p xs = 0) : xs = [] := h.inj Pol.nil (by rw [e, pol_nil])
theorem Pol.ne {xs : List Int} (h : Pol p xs) (h0 : xs ≠ []) : pol p xs ≠ 0 := fun e => h0 (h.zero e)
def lead (xs : List Int) : Int := xs.getD (xs.length - 1) 0
theorem Pol.lead_ne {xs : List Int} (h : Pol p xs) (h0 : xs ≠ []) : lead xs ≠ 0 := h.top (List.length_pos_iff.2 h0)
theorem Pol.lead_range {xs : List Int} (h : Pol p xs) (h0 : xs ≠ []) : 0 < lead xs ∧ lead xs < p := by
  have h1 := h.rng.get (k := xs.length - 1) (by have := List.length_pos_iff.2 h0; omega)
  have h2 := h.lead_ne h0
  unfold lead at h2 ⊢
  omega
theorem Pol.trim {xs : List Int} (hr : Rng p xs) {n : Nat} (hn : n ≤ xs.length) (h0 : ∀ j, n ≤ j → xs.getD j 0 = 0) (ht : 0 < n → xs.getD (n - 1) 0 ≠ 0) : Pol p (xs.take n) ∧ pol p (xs.take n) = pol p xs := by
  have hl : (xs.take n).length = n := by simp; omega
  have hg : ∀ k, (xs.take n).getD k 0 = xs.getD k 0 := fun k => by
    rcases Nat.lt_or_ge k n with h1 | h1
    · simp [List.getD, h1]
    · rw [h0 k h1, getD_over (by omega)]
  refine ⟨⟨hr.take n, fun h => ?_⟩, Ser.of_eq fun k => by rw [hg]⟩
  rw [hl] at h
  rw [hl, hg]
  exact ht h
theorem pol_div_unique {q r q' r' : Ser p} {ys : List Int} (hy : Pol p ys) (h0 : ys ≠ []) {i : Int} (hi : lead ys * i % p = 1) (hq : q.poly) (hq' : q'.poly) (hr : r.low (ys.length - 1)) (hr' : r'.low (ys.length - 1))
    (h : q * pol p ys + r = q' * pol p ys + r') : q = q' ∧ r = r' := by
  have hl := List.length_pos_iff.2 h0
  have hb : (pol p ys).low (ys.length - 1 + 1) := (pol_low ys).mono (by omega)
  have e : (q - q') * pol p ys + (r - r') = 0 := by
    have h1 : q - q' + q' = q := Ser.sub_add q q'
    have h2 : r - r' + r' = r := Ser.sub_add r r'
    rw [← h1, ← h2, Ser.add_mul] at h
    refine Ser.add_right_cancel (c := q' * pol p ys + r') (Eq.trans ?_ (h.trans (Ser.zero_add _).symm))
    ac_rfl
  obtain ⟨e1, e2⟩ := Ser.div_unique hb (by rw [hy.rng.co]; exact hi) (hq.sub hq') (hr.sub hr') e
  exact ⟨Ser.eq_of_sub e1, Ser.eq_of_sub e2⟩
theorem len_mul {xs ys : List Int} (hx : Pol p xs) (hx0 : xs ≠ []) (hy : Pol p ys) {i : Int} (hi : lead ys * i % p = 1) {q : Ser p} (hq : q.poly) (h : pol p xs = q * pol p ys) : ys.length ≤ xs.length := by
  by_cases hy0 : ys = []
  · rw [hy0]; simp
  have hl := List.length_pos_iff.2 hy0
  have q0 : q ≠ 0 := fun e => hx.ne hx0 (by rw [h, e, Ser.zero_mul])
  obtain ⟨d, d1, d2⟩ := hq.top q0
  have e := (Ser.mul_top (n := ys.length - 1) d2 ((pol_low ys).mono (by omega))).1
  rw [← h] at e
  apply Classical.byContradiction
  intro hn
  rw [pol_low xs (d + (ys.length - 1)) (by omega), hy.rng.co] at e
  have e2 : q.co d * (lead ys * i) % p = 0 := by rw [← Int.mul_assoc, ← mm_l, show lead ys = ys.getD (ys.length - 1) 0 from rfl, ← e]; simp
  rw [← mm_r, hi, Int.mul_one, q.ok] at e2
  exact d1 e2
end Go.Proofs.YthomeenmcajmdaaGreatDoor
