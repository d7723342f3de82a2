import Derived.Test.YthomeenmcajmdaaGreatDoorProof
import Derived.Test.YthomeenmcajmdaaGreatDoorBun13
namespace Go.Proofs.YthomeenmcajmdaaGreatDoor
open Go.RowKit Go.Maps
def rawElem (v : Value) : Option (DataW Value × List MemPlace) := some (.held v, [])
theorem wpList_lookup_raw {P : Program} (w : World) {ops : Array Oper} {rest : List Oper} {o : Oper} {a : Act} {Q : Exit → Act → World → Prop} (hg : o.guard = none) (m x : Operand) (t : TypeId) (hop : o.op = Op.lookup t m x true)
    (k e : TypeId) (K : Keyed P k) (ht : P.underlying t = some (.map k e)) {z : Value} (hz : (zeroValue e).run P w = .ok z w) (b n : Nat) (D : DataW Value)
    (hm : a.eval m = .map (some b)) (hown : w.ownsMap P k rawElem b n D) (key : Value) (kl : Lit) (hx : a.eval x = key) (hkey : keyOf P k key = some kl) (v0 : Value) (hv0 : D.atKey kl (.held z) = .held v0)
    (hK : wpList P ops Q rest (a.put o.dst (.tuple #[v0, .bool (Maps.has D kl)])) w) : wpList P ops Q (o :: rest) a w :=
  wpList_lookup_own_ok w hg m x t hop k e K ht rawElem hz (.held z) [] rfl b n D hm hown key kl hx hkey (fun v ps hv => by
    rw [hv0] at hv
    have : v = v0 := (by simpa [rawElem] using hv : v = v0 ∧ ps = []).1
    rw [this]; exact hK)
theorem wpList_lookup_raw1 {P : Program} (w : World) {ops : Array Oper} {rest : List Oper} {o : Oper} {a : Act} {Q : Exit → Act → World → Prop} (hg : o.guard = none) (m x : Operand) (t : TypeId) (hop : o.op = Op.lookup t m x false)
    (k e : TypeId) (K : Keyed P k) (ht : P.underlying t = some (.map k e)) {z : Value} (hz : (zeroValue e).run P w = .ok z w) (b n : Nat) (D : DataW Value)
    (hm : a.eval m = .map (some b)) (hown : w.ownsMap P k rawElem b n D) (key : Value) (kl : Lit) (hx : a.eval x = key) (hkey : keyOf P k key = some kl) (v0 : Value) (hv0 : D.atKey kl (.held z) = .held v0)
    (hK : wpList P ops Q rest (a.put o.dst v0) w) : wpList P ops Q (o :: rest) a w := by
  refine wpList_plain hg fun K' hK' => ?_
  obtain ⟨v, ps, hrun, hv⟩ := hown.lookup K ht hz (zd := .held z) (zp := []) rfl hkey
  rw [hv0] at hv
  obtain rfl : v = v0 := (by simpa [rawElem] using hv : v = v0 ∧ ps = []).1
  unfold Oper.wp
  simp [execOp, hop, hm, hx, hrun, Result.andThen]
  exact hK' _ _ hK
theorem proof_zero (w : World) : (zeroValue 71).run Tryz.prog w = .ok (.agg #[.int .u64 0, .int .u64 0, .slice none 0 0]) w := by kernel_rfl
theorem info_proof : (Tryz.prog.info? 71).map (fun i => (i.zero, i.size, i.bytes)) = some (some (.agg #[.int .u64 0, .int .u64 0, .slice none 0 0]), 3, 40) := by kernel_rfl
def mapSize (w : World) (b : Nat) : Nat := match w.heap[b]? with
  | some (.map es _) => es.size
  | _ => 0
theorem mapSize_eq {P : Program} {k : TypeId} {R : Value → Option (DataW Value × List MemPlace)} {w : World} {b n : Nat} {D : DataW Value} (h : w.ownsMap P k R b n D) : mapSize w b = Maps.size D := by
  obtain ⟨es, clock, hb, _, _, rfl⟩ := h
  simp [mapSize, hb, Maps.size, length_sorted]
def sliceLen : Value → Nat
  | .slice _ n _ => n
  | _ => 0
theorem ownsRow_short {w : World} {base : Nat} {e : TypeId} {a : Option Addr} {n cap : Nat} {xs : List Value} (h : w.ownsRow base e 1 (.slice a (n + 1) cap) (n + 1) xs) : w.ownsRow base e 1 (.slice a n cap) n (xs.take n) := by
  have hl := h.1
  refine ⟨by simp; omega, ?_⟩
  rcases h.2 with ⟨hv, h0⟩ | ⟨g, cap', cur, hv, hb, hg, h1, h2, h3, h4⟩
  · omega
  · injection hv with e1 e2 e3
    subst e1; subst e3
    refine .inr ⟨g, cap, cur, rfl, hb, hg, by omega, h2, h3, ?_⟩
    rw [← h4, List.take_take]
    congr 1
    omega
theorem ownsRow_at {w : World} {base : Nat} {e : TypeId} {v : Value} {n : Nat} {xs : List Int} (h : w.ownsRow base e 1 v (n + 1) (xs.map (Value.int .u64))) :
    ∃ g cap, v = .slice (some ⟨g, 0, none⟩) (n + 1) cap ∧ n + 1 ≤ cap ∧ cap ≤ maxLen ∧ w.cell? ⟨g, n, none⟩ = some (.int .u64 (xs.getD n 0)) := by
  have hl := h.1
  simp at hl
  rcases h.2 with ⟨hv, h0⟩ | ⟨g, cap', cur, rfl, hb, hg, h1, h2, h3, h4⟩
  · omega
  · refine ⟨g, cap', rfl, h1, h2, ?_⟩
    rw [h.cellAt n (by omega)]
    simp [List.getD, show n < xs.length by omega]
def partsOf (n : Int) : List (Int × Int) := (partsD (n - 1)).1
structure Good (dom : List Int) (gen : Int → Int) : Prop where
  range : ∀ n ∈ dom, 3 ≤ n ∧ n ≤ 9223372036854775807
  prime : ∀ n ∈ dom, primeB n = true
  parts : ∀ n ∈ dom, (partsD (n - 1)).2 = 0
  few : ∀ n ∈ dom, (partsOf n).length ≤ 64
  pos : ∀ n ∈ dom, 1 ≤ gen n ∧ gen n ≤ 18446744073709551615
  root : ∀ n ∈ dom, rootB n (gen n) (partsOf n) = true
  least : ∀ n ∈ dom, ∀ j, 1 ≤ j → j < gen n → rootB n j (partsOf n) = false
  down : ∀ n ∈ dom, ∀ q ∈ partsOf n, q.1 = 2 ∨ q.1 ∈ dom
def Reach (p n : Int) : Prop := ∀ S : Int → Prop, S p → (∀ m q, S m → q ∈ partsOf m → q.1 ≠ 2 → S q.1) → S n
theorem Reach.self (p : Int) : Reach p p := fun _ h _ => h
theorem Reach.part {p m : Int} (h : Reach p m) {q : Int × Int} (hq : q ∈ partsOf m) (h2 : q.1 ≠ 2) : Reach p q.1 := fun S h0 h1 => h1 m q (h S h0 h1) hq h2
def mkPrf (gen : Int → Int) (n : Int) : Prf := ⟨n, gen n, partsOf n⟩
def Holds1 (gen : Int → Int) (base : Nat) (w : World) (D : DataW Value) (known : List Int) : Prop :=
  ∀ n ∈ known, ∃ v, (∀ z, D.atKey (.int .u64 n) z = .held (.agg #[.int .u64 n, .int .u64 (gen n), v])) ∧ w.ownsRow base 76 2 v (partsOf n).length (flatP (partsOf n))
theorem Holds1.ext {gen : Int → Int} {base : Nat} {w w' : World} {D : DataW Value} {known : List Int} (h : Holds1 gen base w D known) (he : Ext w w') : Holds1 gen base w' D known := fun n hn => by
  obtain ⟨v, h1, h2⟩ := h n hn
  exact ⟨v, h1, ownsRow_ext h2 he⟩
theorem Holds1.kept {gen : Int → Int} {base : Nat} {w w' : World} {D : DataW Value} {known : List Int} (h : Holds1 gen base w D known) {row : Option Nat} (hg : w.grownBy w' row)
    (hr : ∀ v n xs, w.ownsRow base 76 2 v n xs → v.ownBlock = none ∨ v.ownBlock ≠ row) : Holds1 gen base w' D known := fun n hn => by
  obtain ⟨v, h1, h2⟩ := h n hn
  exact ⟨v, h1, h2.kept hg (hr v _ _ h2)⟩
end Go.Proofs.YthomeenmcajmdaaGreatDoor
namespace Go.Proofs.YthomeenmcajmdaaGreatDoor
open Go.RowKit Go.Maps
theorem ownsRow_slice {w : World} {base : Nat} {e : TypeId} {size n : Nat} {v : Value} {xs : List Value} (h : w.ownsRow base e size v n xs) : ∃ a c, v = .slice a n c := by
  rcases h.2 with ⟨rfl, rfl⟩ | ⟨g, cap, cur, rfl, _⟩
  · exact ⟨_, _, rfl⟩
  · exact ⟨_, _, rfl⟩
structure Between (dom : List Int) (gen : Int → Int) (p : Int) (w wr : World) (tv : Value) (td kn : List Int) (D : DataW Value) : Prop where
  row : wr.ownsRow w.heap.size 22 1 tv td.length (td.map (Value.int .u64))
  map : wr.ownsMap Tryz.prog 22 rawElem w.heap.size kn.length D
  size : Maps.size D = kn.length
  has : ∀ x, Maps.has D (.int .u64 x) = decide (x ∈ kn)
  holds : Holds1 gen w.heap.size wr D kn
  nodup : kn.Nodup
  inD : ∀ n ∈ kn, n ∈ dom
  todo : ∀ n ∈ td, n = 2 ∨ n ∈ dom
  few : td.length ≤ 64 * kn.length + 1
  start : p = 2 ∨ p ∈ kn ∨ p ∈ td
  down : ∀ n ∈ kn, ∀ q ∈ partsOf n, q.1 = 2 ∨ q.1 ∈ kn ∨ q.1 ∈ td
  reach : ∀ n, n ∈ kn ∨ n ∈ td → n = 2 ∨ Reach p n
  ext : Ext w wr
theorem Between.skip {dom : List Int} {gen : Int → Int} {p : Int} {w wr w' : World} {a : Option Addr} {m cap : Nat} {ys kn : List Int} {n : Int} {D : DataW Value} (h : Between dom gen p w wr (.slice a (m + 1) cap) (ys ++ [n]) kn D) (hm : ys.length = m)
    (hn : n = 2 ∨ n ∈ kn) (he : Ext wr w') : Between dom gen p w w' (.slice a m cap) ys kn D where
  row := by
    have h1 := h.row
    simp only [List.length_append, List.length_cons, List.length_nil, Nat.zero_add, List.map_append] at h1
    rw [hm] at h1 ⊢
    have h2 := ownsRow_short h1
    rw [List.take_append_of_le_length (by simp [hm]), List.take_of_length_le (by simp [hm])] at h2
    exact ownsRow_ext h2 he
  map := ownsMap_ext h.map he
  size := h.size
  has := h.has
  holds := h.holds.ext he
  nodup := h.nodup
  inD := h.inD
  todo := fun x hx => h.todo x (by simp [hx])
  few := by have := h.few; simp at this; omega
  start := by
    rcases h.start with h1 | h1 | h1
    · exact .inl h1
    · exact .inr (.inl h1)
    · rcases List.mem_append.1 h1 with h2 | h2
      · exact .inr (.inr h2)
      · simp at h2
        rcases hn with h3 | h3
        · exact .inl (by omega)
        · exact .inr (.inl (h2 ▸ h3))
  down := fun x hx q hq => by
    rcases h.down x hx q hq with h1 | h1 | h1
    · exact .inl h1
    · exact .inr (.inl h1)
    · rcases List.mem_append.1 h1 with h2 | h2
      · exact .inr (.inr h2)
      · simp at h2
        rcases hn with h3 | h3
        · exact .inl (by omega)
        · exact .inr (.inl (h2 ▸ h3))
  reach := fun x hx => h.reach x (hx.imp id fun h1 => by simp [h1])
  ext := h.ext.trans he
def flat3 (gen : Int → Int) (vs : Int → Value) (xs : List Int) : List Value := xs.flatMap fun n => [.int .u64 n, .int .u64 (gen n), vs n]
theorem flat3_snoc (gen : Int → Int) (vs : Int → Value) (xs : List Int) (n : Int) : flat3 gen vs (xs ++ [n]) = flat3 gen vs xs ++ [.int .u64 n, .int .u64 (gen n), vs n] := by simp [flat3]
theorem flat3_get (gen : Int → Int) (vs : Int → Value) : ∀ (xs : List Int) (j : Nat), j < xs.length → (flat3 gen vs xs)[j * 3]? = some (.int .u64 (xs.getD j 0)) ∧ (flat3 gen vs xs)[j * 3 + 1]? = some (.int .u64 (gen (xs.getD j 0))) ∧ (flat3 gen vs xs)[j * 3 + 2]? = some (vs (xs.getD j 0))
  | [], j, h => by simp at h
  | x :: xs, 0, _ => by simp [flat3]
  | x :: xs, j + 1, h => by
    have := flat3_get gen vs xs j (by simpa using h)
    have e : flat3 gen vs (x :: xs) = .int .u64 x :: .int .u64 (gen x) :: vs x :: flat3 gen vs xs := by simp [flat3]
    rw [e, show (j + 1) * 3 = j * 3 + 1 + 1 + 1 by omega]
    simpa using this
theorem Proofs.own {w : World} {base : Nat} {e : TypeId} {v : Value} {gen : Int → Int} {vs : Int → Value} {ss : List Int} (h : w.ownsRow base e 3 v ss.length (flat3 gen vs ss)) (hp : ∀ n ∈ ss, Parts w (vs n) (partsOf n)) : Proofs w v (ss.map (mkPrf gen)) := by
  rcases h.2 with ⟨rfl, h0⟩ | ⟨g, cap, cur, rfl, hb, hg, h1, h2, h3, h4⟩
  · obtain rfl : ss = [] := List.eq_nil_of_length_eq_zero h0
    exact Proofs.nil
  · refine ⟨_, cap, by simp, by simpa using h1, by unfold maxLen at h2; omega, fun hp' => ⟨g, 0, rfl, (Array.getElem?_eq_some_iff.1 hg).1, fun j hj => ?_⟩⟩
    simp only [List.length_map] at hj
    have hf := flat3_get gen vs ss j hj
    have c1 := h.cellAt (j * 3) (by omega)
    have c2 := h.cellAt (j * 3 + 1) (by omega)
    have c3 := h.cellAt (j * 3 + 2) (by omega)
    have eg : (ss.map (mkPrf gen)).getD j .zero = mkPrf gen (ss.getD j 0) := by simp [List.getD, List.getElem?_eq_getElem hj]
    rw [Nat.zero_add, eg]
    exact ⟨c1.trans hf.1, c2.trans hf.2.1, _, c3.trans hf.2.2, hp _ (getD_mem 0 hj)⟩
theorem Holds1.pick {gen : Int → Int} {B : Nat} {w : World} {D : DataW Value} {kn : List Int} (h : Holds1 gen B w D kn) :
    ∃ vs : Int → Value, ∀ n ∈ kn, (∀ z, D.atKey (.int .u64 n) z = .held (.agg #[.int .u64 n, .int .u64 (gen n), vs n])) ∧ w.ownsRow B 76 2 (vs n) (partsOf n).length (flatP (partsOf n)) := by
  classical
  refine ⟨fun n => if hn : n ∈ kn then Classical.choose (h n hn) else .slice none 0 0, fun n hn => ?_⟩
  have := Classical.choose_spec (h n hn)
  simpa [hn] using this
theorem Holds1.put {gen : Int → Int} {B : Nat} {w : World} {D : DataW Value} {kn : List Int} {n : Int} {v : Value} (h : Holds1 gen B w D kn) (hm : IsMap D) (hx : n ∉ kn) (hv : w.ownsRow B 76 2 v (partsOf n).length (flatP (partsOf n))) :
    Holds1 gen B w (D.put (.int .u64 n) (.held (.agg #[.int .u64 n, .int .u64 (gen n), v]))) (kn ++ [n]) := fun x hx' => by
  rcases List.mem_append.1 hx' with h1 | h1
  · obtain ⟨u, h2, h3⟩ := h x h1
    have hne : x ≠ n := fun e => hx (e ▸ h1)
    exact ⟨u, fun z => by rw [atKey_put_other (by simpa using hne)]; exact h2 z, h3⟩
  · simp at h1
    subst h1
    exact ⟨v, fun z => atKey_put_same hm (by simp [WideAt.IsKeyLit]) _ z, hv⟩
theorem Between.short {dom : List Int} {gen : Int → Int} {p : Int} {w wr : World} {a : Option Addr} {m cap : Nat} {ys kn : List Int} {n : Int} {D : DataW Value} (h : Between dom gen p w wr (.slice a (m + 1) cap) (ys ++ [n]) kn D) (hm : ys.length = m) :
    wr.ownsRow w.heap.size 22 1 (.slice a m cap) m (ys.map (Value.int .u64)) := by
  have h1 := h.row
  simp only [List.length_append, List.length_cons, List.length_nil, Nat.zero_add, List.map_append] at h1
  rw [hm] at h1
  have h2 := ownsRow_short h1
  rwa [List.take_append_of_le_length (by simp [hm]), List.take_of_length_le (by simp [hm])] at h2
structure Inner (gen : Int → Int) (w wi : World) (tv v : Value) (m k : Nat) (ys kn : List Int) (n : Int) (D : DataW Value) : Prop where
  row : wi.ownsRow w.heap.size 22 1 tv (m + k) ((ys ++ ((partsOf n).take k).map (·.1)).map (Value.int .u64))
  map : wi.ownsMap Tryz.prog 22 rawElem w.heap.size (kn.length + 1) D
  holds : Holds1 gen w.heap.size wi D (kn ++ [n])
  part : wi.ownsRow w.heap.size 76 2 v (partsOf n).length (flatP (partsOf n))
  ext : Ext w wi
theorem Between.more {dom : List Int} {gen : Int → Int} {p : Int} {w wr wi : World} {tv tv' v f : Value} {ys kn : List Int} {n : Int} {D : DataW Value} {m k : Nat} (h : Between dom gen p w wr tv (ys ++ [n]) kn D)
    (h' : Inner gen w wi tv' v m k ys kn n (D.put (.int .u64 n) (.held f))) (hm : ys.length = m) (hk : k = (partsOf n).length) (hG : Good dom gen) (hn : n ∈ dom) (hx : n ∉ kn) (h2 : n ≠ 2) :
    Between dom gen p w wi tv' (ys ++ (partsOf n).map (·.1)) (kn ++ [n]) (D.put (.int .u64 n) (.held f)) where
  row := by
    have := h'.row
    rw [hk, List.take_length] at this
    simpa [hm] using this
  map := by simpa using h'.map
  size := by
    have : Maps.has D (.int .u64 n) = false := by rw [h.has]; simpa using hx
    rw [size_put (h.map.tidy u64_key), this, h.size]; simp
  has := fun x => by rw [has_put h.map.isMap, h.has]; rw [Bool.eq_iff_iff]; simp [or_comm]
  holds := h'.holds
  nodup := List.nodup_append.2 ⟨h.nodup, by simp, fun a ha b hb => by simp at hb; subst hb; exact fun e => hx (e ▸ ha)⟩
  inD := fun x hx' => by
    rcases List.mem_append.1 hx' with h1 | h1
    · exact h.inD x h1
    · simp at h1; exact h1 ▸ hn
  todo := fun x hx' => by
    rcases List.mem_append.1 hx' with h1 | h1
    · exact h.todo x (by simp [h1])
    · obtain ⟨q, hq, rfl⟩ := List.mem_map.1 h1
      exact hG.down n hn q hq
  few := by have := h.few; have := hG.few n hn; simp at *; omega
  start := by
    rcases h.start with h1 | h1 | h1
    · exact .inl h1
    · exact .inr (.inl (by simp [h1]))
    · rcases List.mem_append.1 h1 with h3 | h3
      · exact .inr (.inr (by simp [h3]))
      · exact .inr (.inl (by simp at h3; simp [h3]))
  down := fun x hx' q hq => by
    rcases List.mem_append.1 hx' with h1 | h1
    · rcases h.down x h1 q hq with h3 | h3 | h3
      · exact .inl h3
      · exact .inr (.inl (by simp [h3]))
      · rcases List.mem_append.1 h3 with h4 | h4
        · exact .inr (.inr (by simp [h4]))
        · exact .inr (.inl (by simp at h4; simp [h4]))
    · simp at h1
      subst h1
      exact .inr (.inr (List.mem_append.2 (.inr (List.mem_map.2 ⟨q, hq, rfl⟩))))
  reach := fun x hx' => by
    have hrn : Reach p n := (h.reach n (.inr (by simp))).resolve_left h2
    rcases hx' with h1 | h1
    · rcases List.mem_append.1 h1 with h3 | h3
      · exact h.reach x (.inl h3)
      · simp at h3; exact .inr (h3 ▸ hrn)
    · rcases List.mem_append.1 h1 with h3 | h3
      · exact h.reach x (.inr (by simp [h3]))
      · obtain ⟨q, hq, rfl⟩ := List.mem_map.1 h3
        by_cases e : q.1 = 2
        · exact .inl e
        · exact .inr (hrn.part hq e)
  ext := h'.ext
set_option maxRecDepth 100000 in
set_option maxHeartbeats 4000000 in
theorem Build_ok (dom : List Int) (gen : Int → Int) (hG : Good dom gen) (hd : dom.length ≤ 49) (p : Int) (w : World) (hp0 : 2 ≤ p) (hp1 : p ≤ 9223372036854775807) (hp : p = 2 ∨ p ∈ dom) (hT : Tab w) :
    Calls Tryz.prog 17 #[.int .u64 p] w fun e w' => ∃ (v : Value) (ss : List Int), Ret (.tuple #[v, .int .i64 0]) w e w' ∧ Proofs w' v (ss.map (mkPrf gen)) ∧ ss.Pairwise (· < ·) ∧
      (∀ n ∈ ss, n ∈ dom ∧ Reach p n) ∧ (p = 2 ∨ p ∈ ss) ∧ ∀ n ∈ ss, ∀ q ∈ partsOf n, q.1 = 2 ∨ q.1 ∈ ss := by
  have hmm := @run_makeMap Tryz.prog
  obtain ⟨i0, hi, hz0, hz1, hz2⟩ := info_parts info_u64
  have hpr : rightB p = true := rightB_mk ⟨hp0, hp1⟩
  have HG := hid hG; have HT := hid hT; have HP := hid hp; have HR := hid hpr
  clear hG hT hp hpr
  go_enter Tryz.func17, Tryz.ntmps17
  go_wp2_with fail
  refine (right_any _ _ (by omega) (by omega)).mono ?_; rintro _ w1 ⟨rfl, h1⟩
  rw [HR.out]
  subst h1
  go_wp2_with fail
  go_loopw [5] (fun tv wr => ∃ td kn D, Between dom gen p w wr tv td kn D) (fun tv wr => (dom.length - mapSize wr w.heap.size) * 65 + sliceLen tv)
  case atStart =>
    refine ⟨[p], [], .map [], ?_, ?_, rfl, fun x => by simp [Maps.has], fun n hn => by simp at hn, List.nodup_nil, by simp, by simpa using HP.out, by simp, .inr (.inr (by simp)), by simp, fun n hn => by simp at hn; exact .inr (hn ▸ Reach.self p), (by repeat (first | exact Ext.refl _ | assumption | refine Ext.drew ?_ | refine Ext.drewN ?_ _ | refine Ext.alloc ?_ _ | refine Ext.trans ?_ (by assumption)))⟩
    · have := World.ownsRow_lit (base := w.heap.size) (e := 22) (size := 1) (w.alloc (.map #[] 0)) #[.int .u64 p] 1 (by simp) (by simp [maxLen]) rfl
      simpa using this
    · exact (World.ownsMap_made w _ _ _).alloc _
  case round =>
    obtain ⟨td, kn, D, hB⟩ := hrel
    have HB := hid hB
    have hsz := mapSize_eq hB.map
    rw [hB.size] at hsz
    have hrow := hB.row
    clear hB
    rcases List.eq_nil_or_concat td with rfl | ⟨ys, n, rfl⟩
    · obtain ⟨ta, tc, rfl⟩ := ownsRow_slice hrow
      have hsl := HB.out.size
      have hkl := nodup_le kn dom HB.out.nodup HB.out.inD
      obtain ⟨vs, hvs⟩ := HB.out.holds.pick
      have HVS := hid hvs
      have hwr := HB.out.ext
      have hml := HB.out.map.lt
      obtain ⟨j0, hj, hj0, hj1, hj2⟩ := info_parts info_proof
      clear hrow hvs
      simp only [List.length_nil]
      go_wp2_with fail
      refine (keys_any _ _).mono ?_; rintro _ w2 ⟨rfl, rfl⟩
      go_wp2_with fail
      refine (sortedK_any wr.heap.size w.heap.size _ D (by omega) _ (by simp) ((Blk.new _ _ _).cell 0) (HB.out.map.alloc _)).mono ?_; rintro _ w3 ⟨v, ss, rfl, hks, hpw, hin, x3⟩
      have hin2 := hin
      obtain ⟨a, cap, rfl, i1, i2, i3⟩ := hin
      have HK := hid hks; have HPW := hid hpw; have HI3 := hid i3
      have hwr3 : Ext wr w3 := (by repeat (first | exact Ext.refl _ | assumption | refine Ext.drew ?_ | refine Ext.drewN ?_ _ | refine Ext.alloc ?_ _ | refine Ext.trans ?_ (by assumption)))
      clear hks hpw i3 hin2
      have hkn : ∀ n ∈ ss, n ∈ kn := fun n hn => by
        have h1 := (HK.out.2.1 n).1 hn
        rw [HB.out.has] at h1
        simpa using h1
      have HKN := hid hkn
      have hmp3 := hid (ownsMap_ext HB.out.map hwr3)
      have hws := hwr.size
      have hws3 := hwr3.size
      have hlen : ss.length ≤ 49 := by have := HK.out.2.2; omega
      clear hkn
      go_wp2_with fail
      go_loopw [75, 13] (fun i lv wl => ∃ k : Nat, i = .int .i64 k ∧ k ≤ ss.length ∧ wl.ownsRow w3.heap.size 71 3 lv k (flat3 gen vs (ss.take k)) ∧ Ext w3 wl) (fun i _ _ => ss.length - (intOf i).toNat)
      case atStart => exact ⟨0, rfl, Nat.zero_le _, World.ownsRow_nil _ _ _ _, Ext.refl _⟩
      case round =>
        obtain ⟨k, rfl, hk, hlr, hxl⟩ := hrel
        by_cases hlk : k < ss.length
        · obtain ⟨b', off, rfl, hb', hcl⟩ := HI3.out (by omega)
          have g1 := (hxl.cells _ _ hb').trans (hcl k hlk)
          have htk : ss.take (k + 1) = ss.take k ++ [ss.getD k 0] := by
            rw [List.take_succ_eq_append_getElem hlk]; simp [List.getD, List.getElem?_eq_getElem hlk]
          have hkm := HKN.out _ (getD_mem (xs := ss) 0 hlk)
          generalize ss.getD k 0 = n at *
          have hn := HG.out.range n (HB.out.inD n hkm)
          have hgp := HG.out.pos n (HB.out.inD n hkm)
          obtain ⟨hv1, hv2⟩ := HVS.out n hkm
          have hfl := flat3_snoc gen vs (ss.take k) n
          obtain ⟨va, vc, hve⟩ := ownsRow_slice hv2
          have HV := hid (hv1 (.held (.agg #[.int .u64 0, .int .u64 0, .slice none 0 0])))
          rw [hve] at HV hfl
          have HTK := hid htk; have HFL := hid hfl; have HLR := hid hlr
          have hkey := hid (u64_keyOf (n := n) (by omega) (by omega))
          have hxs := hxl.size
          clear hcl htk hfl hlr hv1 hv2 hve
          generalize gen n = gn at *
          go_wp2_with (first
            | (at_lookup; refine wpList_lookup_raw1 _ rfl _ _ 68 rfl 22 71 u64_key Tryz.underlying68 (proof_zero _) w.heap.size _ _ rfl (ownsMap_ext hmp3.out hxl) _ _ rfl hkey.out _ HV.out ?_)
            | (at_builtin; refine wpList_append_own _ rfl _ _ 23 rfl w3.heap.size 71 j0 (.agg #[.int .u64 0, .int .u64 0, .slice none 0 0]) 3 40 Tryz.underlying23 hj hj0 hj1 hj2 rfl (by decide) _ _ _ rfl (HLR.out.alloc _) ⟨wr.heap.size, 0, none⟩ 1 1 [.int .u64 n, .int .u64 gn, .slice va (partsOf n).length vc] rfl rfl (cells_new _ _ _ rfl) (by simp [Value.oneCell']) (by simp only [maxLen]; omega) (by omega) (by simp; omega) ?_; intro v' w4 hown4 hgrow4 hnil4)
            | fail)
          go_roundw
          case rel => exact ⟨k + 1, by go_num, by omega, by rw [HTK.out, HFL.out]; simpa using hown4, (hxl.alloc _).grown hgrow4 (fun j e => (HLR.out.lt j e).1)⟩
          case measure => simp [intOf]; omega
        · obtain rfl : k = ss.length := by omega
          have HLR := hid hlr
          clear hlr
          go_wp2_with fail
          go_ret2
          rw [List.take_length] at HLR
          refine ⟨_, ss, ⟨rfl, (by repeat (first | exact Ext.refl _ | assumption | refine Ext.drew ?_ | refine Ext.drewN ?_ _ | refine Ext.alloc ?_ _ | refine Ext.trans ?_ (by assumption)))⟩, Proofs.own HLR.out (fun n hn => ?_), HPW.out, fun n hn => ⟨HB.out.inD n (HKN.out n hn), ?_⟩, ?_, ?_⟩
          · exact ((Parts.own (HVS.out n (HKN.out n hn)).2).ext hwr3).ext hxl
          · have h1 := HB.out.reach n (.inl (HKN.out n hn))
            have := HG.out.range n (HB.out.inD n (HKN.out n hn))
            exact h1.resolve_left (by omega)
          · rcases HB.out.start with h1 | h1 | h1
            · exact .inl h1
            · exact .inr ((HK.out.2.1 p).2 (by rw [HB.out.has]; simpa using h1))
            · simp at h1
          · intro n hn q hq
            rcases HB.out.down n (HKN.out n hn) q hq with h1 | h1 | h1
            · exact .inl h1
            · exact .inr ((HK.out.2.1 q.1).2 (by rw [HB.out.has]; simpa using h1))
            · simp at h1
    · rw [List.concat_eq_append] at *
      obtain ⟨m, hm⟩ : ∃ m, ys.length = m := ⟨_, rfl⟩
      have hl1 : (ys ++ [n]).length = m + 1 := by simp [hm]
      rw [hl1] at hrow
      obtain ⟨g, cap, rfl, hc1, hc2, hcell⟩ := ownsRow_at hrow
      have hgd : (ys ++ [n]).getD m 0 = n := by subst hm; simp [List.getD]
      rw [hgd] at hcell
      have hn := HB.out.todo n (by simp)
      have hrange : 2 ≤ n ∧ n ≤ 9223372036854775807 := by
        rcases hn with h | h
        · omega
        · have := HG.out.range n h; omega
      have hkey := hid (u64_keyOf (n := n) (by omega) (by omega))
      have HN := hid hn
      obtain ⟨x, ex⟩ : ∃ x, Maps.has D (.int .u64 n) = x := ⟨_, rfl⟩
      have hx := HB.out.has n
      rw [ex] at hx
      have EX := hid ex; have HX := hid hx
      clear hrow hn ex hx hgd hl1
      unfold maxLen at hc2
      cases x with
      | true =>
        have hk : n ∈ kn := by simpa using HX.out.symm
        obtain ⟨v, hv1, hv2⟩ := HB.out.holds n hk
        obtain ⟨va, vc, rfl⟩ := ownsRow_slice hv2
        have HV := hid (hv1 (.held (.agg #[.int .u64 0, .int .u64 0, .slice none 0 0])))
        have HK := hid hk
        clear hk hv1 hv2
        go_wp2_with (first | (at_lookup; refine wpList_lookup_raw _ rfl _ _ 68 rfl 22 71 u64_key Tryz.underlying68 (proof_zero _) w.heap.size _ _ rfl HB.out.map _ _ rfl hkey.out _ HV.out ?_; rw [EX.out]) | fail)
        go_roundw
        case rel => exact ⟨ys, kn, D, HB.out.skip hm (.inr HK.out) (by repeat (first | exact Ext.refl _ | assumption | refine Ext.drew ?_ | refine Ext.drewN ?_ _ | refine Ext.alloc ?_ _ | refine Ext.trans ?_ (by assumption)))⟩
        case measure =>
          have e : mapSize ((wr.alloc (.cells #[.int .u64 n, .int .u64 (gen n), .slice va (partsOf n).length vc] 71))) w.heap.size = kn.length := (mapSize_eq (HB.out.map.alloc _)).trans HB.out.size
          rw [e, hsz]; simp [sliceLen]
      | false =>
        have HZ := hid (atKey_of_not_has EX.out (.held (.agg #[.int .u64 0, .int .u64 0, .slice none 0 0])))
        by_cases h2 : n = 2
        · have b2 : (n == 2) = true := by simpa using h2
          have H2 := hid h2
          clear h2
          go_wp2_with (first | (at_lookup; refine wpList_lookup_raw _ rfl _ _ 68 rfl 22 71 u64_key Tryz.underlying68 (proof_zero _) w.heap.size _ _ rfl HB.out.map _ _ rfl hkey.out _ HZ.out ?_; rw [EX.out]) | fail)
          go_roundw
          case rel => exact ⟨ys, kn, D, HB.out.skip hm (.inl H2.out) (by repeat (first | exact Ext.refl _ | assumption | refine Ext.drew ?_ | refine Ext.drewN ?_ _ | refine Ext.alloc ?_ _ | refine Ext.trans ?_ (by assumption)))⟩
          case measure =>
            have e : mapSize ((wr.alloc (.cells #[.int .u64 0, .int .u64 0, .slice none 0 0] 71))) w.heap.size = kn.length := (mapSize_eq (HB.out.map.alloc _)).trans HB.out.size
            rw [e, hsz]; simp [sliceLen]
        · have b2 : (n == 2) = false := by simpa using h2
          have hnd : n ∈ dom := HN.out.resolve_left h2
          have hnk : n ∉ kn := by simpa using HX.out
          have hknl := nodup_le kn dom HB.out.nodup HB.out.inD
          have hknl2 := nodup_le (kn ++ [n]) dom (List.nodup_append.2 ⟨HB.out.nodup, by simp, fun a ha b hb => by simp at hb; subst hb; exact fun e => hnk (e ▸ ha)⟩) (fun y hy => by
            rcases List.mem_append.1 hy with h1 | h1
            · exact HB.out.inD y h1
            · simp at h1; exact h1 ▸ hnd)
          have hfew := HB.out.few
          have hpl := HG.out.few n hnd
          simp only [List.length_append, List.length_cons, List.length_nil] at hknl2 hfew
          have hgp := HG.out.pos n hnd
          have hr3 := (HG.out.range n hnd).1
          have HPF := hid (fun w0 (ht : Tab w0) => proof_ok n (gen n) (partsOf n) w0 hr3 hrange.2 (by rw [← HG.out.parts n hnd]; rfl) (HG.out.prime n hnd) hgp.1 hgp.2 (HG.out.root n hnd) (HG.out.least n hnd) ht)
          have HND := hid hnd; have HNK := hid hnk; have H2 := hid h2
          clear hnd hnk h2 hgp
          have hwr := HB.out.ext
          go_wp2_with (first | (at_lookup; refine wpList_lookup_raw _ rfl _ _ 68 rfl 22 71 u64_key Tryz.underlying68 (proof_zero _) w.heap.size _ _ rfl HB.out.map _ _ rfl hkey.out _ HZ.out ?_; rw [EX.out]) | fail)
          refine (HPF.out _ (HT.out.ext (by repeat (first | exact Ext.refl _ | assumption | refine Ext.drew ?_ | refine Ext.drewN ?_ _ | refine Ext.alloc ?_ _ | refine Ext.trans ?_ (by assumption))))).mono ?_; rintro _ w2 ⟨v, ⟨rfl, x2⟩, hrow2⟩
          have hrow3 := ownsRow_low (base' := w.heap.size) hrow2 (by have := hwr.size; simp; omega)
          clear hrow2
          obtain ⟨va, vc, rfl⟩ := ownsRow_slice hrow3
          have hwr2 : Ext wr w2 := (by repeat (first | exact Ext.refl _ | assumption | refine Ext.drew ?_ | refine Ext.drewN ?_ _ | refine Ext.alloc ?_ _ | refine Ext.trans ?_ (by assumption)))
          have HR3 := hid hrow3
          clear hrow3
          have hbm := HB.out.map.lt
          have hbx : Blk (w2.alloc (.cells #[.int .u64 n, .int .u64 (gen n), .slice va (partsOf n).length vc] 71)) w2.heap.size 71 #[.int .u64 n, .int .u64 (gen n), .slice va (partsOf n).length vc] := Blk.new _ _ _
          have HBX := hid hbx
          clear hbx
          have hs2 := hwr2.size
          go_wp2_with (first | (at_mapUpdate; refine wpList_mapUpdate_own _ rfl _ _ _ 68 rfl 22 71 u64_key Tryz.underlying68 rawElem w.heap.size kn.length _ rfl ((ownsMap_ext HB.out.map hwr2).alloc _) (by unfold maxLen; omega) _ _ _ rfl rfl hkey.out _ [] rfl ?_; intro w3 hown3 hgrow3; have d2 := hgrow3.cell ((HBX.out.cell 2).trans rfl) (by simp; omega)) | fail)
          have hisM := HB.out.map.isMap
          go_loopw [61, 5] (fun i tv wi => ∃ k : Nat, i = .int .i64 k ∧ k ≤ (partsOf n).length ∧ Inner gen w wi tv (.slice va (partsOf n).length vc) m k ys kn n (D.put (.int .u64 n) (.held (.agg #[.int .u64 n, .int .u64 (gen n), .slice va (partsOf n).length vc])))) (fun i _ _ => (partsOf n).length - (intOf i).toNat)
          case atStart =>
            have mp := (ownsMap_ext HB.out.map hwr2).alloc (.cells #[.int .u64 n, .int .u64 (gen n), .slice va (partsOf n).length vc] 71)
            have r1 := (ownsRow_ext (HB.out.short hm) hwr2).alloc (.cells #[.int .u64 n, .int .u64 (gen n), .slice va (partsOf n).length vc] 71)
            have r2 := HR3.out.alloc (.cells #[.int .u64 n, .int .u64 (gen n), .slice va (partsOf n).length vc] 71)
            exact ⟨0, rfl, Nat.zero_le _, by simpa using r1.kept hgrow3 (.inr (ownsRow_map r1 mp).symm), hown3,
              ((HB.out.holds.ext (hwr2.alloc _)).kept hgrow3 (fun v n xs h => .inr (ownsRow_map h mp).symm)).put hisM HNK.out (r2.kept hgrow3 (.inr (ownsRow_map r2 mp).symm)),
              r2.kept hgrow3 (.inr (ownsRow_map r2 mp).symm), ((hwr.trans hwr2).alloc _).grown hgrow3 (fun k e => by cases e; exact Nat.le_refl _)⟩
          case round =>
            obtain ⟨k, rfl, hk, hI⟩ := hrel
            have HI := hid hI
            clear hgrow3 hown3 d2 hI
            by_cases hlk : k < (partsOf n).length
            · obtain ⟨pa, pc, he, p1, p2, p3⟩ := Parts.own HI.out.part
              injection he with he1 he2 he3
              subst he1; subst he3
              obtain ⟨b', off, rfl, hb', hcl⟩ := p3 (by omega)
              obtain ⟨g1, g2⟩ := hcl k hlk
              have hq := (partsD_Ok (n - 1)) _ (getD_mem (xs := partsOf n) (0, 0) hlk)
              have htk : (partsOf n).take (k + 1) = (partsOf n).take k ++ [(partsOf n).getD k (0, 0)] := by
                rw [List.take_succ_eq_append_getElem hlk]; simp [List.getD, List.getElem?_eq_getElem hlk]
              generalize (partsOf n).getD k (0, 0) = q at *
              obtain ⟨q1, q2⟩ := q
              simp only at g1 g2 hq
              have HTK := hid htk
              have hrw := HI.out.row
              have hie := HI.out.ext.size
              clear p3 hcl htk
              go_wp2_with (first | (at_builtin; refine wpList_append_own _ rfl _ _ 24 rfl w.heap.size 22 i0 (.int .u64 0) 1 8 Tryz.underlying24 hi hz0 hz1 hz2 rfl (by decide) _ _ _ rfl ((hrw.alloc _).alloc _) ⟨wr.heap.size + 1, 0, none⟩ 1 1 [.int .u64 q1] rfl rfl (cells_new _ _ _ (by simp)) (by simp [Value.oneCell']) (by simp only [maxLen]; omega) (by omega) (by simp; omega) ?_; intro v' w4 hown4 hgrow4 hnil4) | fail)
              have HO4 := hid hown4
              clear hown4
              go_roundw
              case rel =>
                have m1 := (HI.out.map.alloc (.cells #[.int .u64 q1, .int .i64 q2] 76)).alloc (.cells #[.int .u64 q1] 22)
                have r1 := (hrw.alloc (.cells #[.int .u64 q1, .int .i64 q2] 76)).alloc (.cells #[.int .u64 q1] 22)
                have r2 := (HI.out.part.alloc (.cells #[.int .u64 q1, .int .i64 q2] 76)).alloc (.cells #[.int .u64 q1] 22)
                have e2 : Ext wr ((wr.alloc (.cells #[.int .u64 q1, .int .i64 q2] 76)).alloc (.cells #[.int .u64 q1] 22)) := ((Ext.refl _).alloc _).alloc _
                exact ⟨k + 1, by go_num, by omega, by rw [HTK.out]; simpa [Nat.add_assoc] using HO4.out, m1.kept hgrow4 (ownsRow_map r1 m1),
                  (HI.out.holds.ext e2).kept hgrow4 (fun v n xs h => ownsRow_apart h r1 (by decide)), r2.kept hgrow4 (ownsRow_apart r2 r1 (by decide)), (HI.out.ext.trans e2).grown hgrow4 (fun j e => (r1.lt j e).1)⟩
              case measure => simp [intOf]; omega
            · obtain rfl : k = (partsOf n).length := by omega
              have hmore := HB.out.more HI.out hm rfl HG.out HND.out HNK.out H2.out
              obtain ⟨ta, tc, rfl⟩ := ownsRow_slice HI.out.row
              have HM := hid hmore
              clear hmore
              go_wp2_with fail
              go_roundw
              case rel => exact ⟨_, _, _, HM.out⟩
              case measure =>
                have e : mapSize wr w.heap.size = kn.length + 1 := (mapSize_eq HM.out.map).trans (by rw [HM.out.size]; simp)
                rw [e, hsz]
                simp only [sliceLen]
                omega
end Go.Proofs.YthomeenmcajmdaaGreatDoor
