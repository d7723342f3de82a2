/- What prime.Build answers. -/
import Derived.Test.YtncidpckokclbaaDoorProof
import Derived.Test.YtncidpckokclbaaDoorKeys
import Derived.Test.YtncidpckokclbaaDoorPratt
namespace Go.Proofs.YtncidpckokclbaaDoor
open Go.RowKit Go.Maps

/-- an element as it stands -/
def rawElem (v : Value) : Option (DataW Value × List MemPlace) := some (.held v, [])
theorem wpList_lookup_raw {P : Program} (w : World) {ops : Array Oper} {rest : List Oper} {o : Oper} {a : Act} {Q : Exit → Act → World → Prop} (hg : o.guard = none) (m x : Operand) (t : TypeId) (hop : o.op = Op.lookup t m x true)
    (k e : TypeId) (K : Keyed P k) (ht : P.underlying t = some (.map k e)) {z : Value} (hz : (zeroValue e).run P w = .ok z w) (b n : Nat) (D : DataW Value)
    (hm : a.eval m = .map (some b)) (hown : w.ownsMap P k rawElem b n D) (key : Value) (kl : Lit) (hx : a.eval x = key) (hkey : keyOf P k key = some kl) (v0 : Value) (hv0 : D.atKey kl (.held z) = .held v0)
    (hK : wpList P ops Q rest (a.put o.dst (.tuple #[v0, .bool (Maps.has D kl)])) w) : wpList P ops Q (o :: rest) a w :=
  wpList_lookup_own_ok w hg m x t hop k e K ht rawElem hz (.held z) [] rfl b n D hm hown key kl hx hkey (fun v ps hv => by
    rw [hv0] at hv
    have : v = v0 := (by simpa [rawElem] using hv : v = v0 ∧ ps = []).1
    rw [this]; exact hK)
theorem wpList_lookup_raw1 {P : Program} (w : World) {ops : Array Oper} {rest : List Oper} {o : Oper} {a : Act} {Q : Exit → Act → World → Prop} (hg : o.guard = none) (m x : Operand) (t : TypeId) (hop : o.op = Op.lookup t m x false)
    (k e : TypeId) (K : Keyed P k) (ht : P.underlying t = some (.map k e)) {z : Value} (hz : (zeroValue e).run P w = .ok z w) (b n : Nat) (D : DataW Value)
    (hm : a.eval m = .map (some b)) (hown : w.ownsMap P k rawElem b n D) (key : Value) (kl : Lit) (hx : a.eval x = key) (hkey : keyOf P k key = some kl) (v0 : Value) (hv0 : D.atKey kl (.held z) = .held v0)
    (hK : wpList P ops Q rest (a.put o.dst v0) w) : wpList P ops Q (o :: rest) a w := by
  refine wpList_plain hg fun K' hK' => ?_
  obtain ⟨v, ps, hrun, hv⟩ := hown.lookup K ht hz (zd := .held z) (zp := []) rfl hkey
  rw [hv0] at hv
  obtain rfl : v = v0 := (by simpa [rawElem] using hv : v = v0 ∧ ps = []).1
  unfold Oper.wp
  simp [execOp, hop, hm, hx, hrun, Result.andThen]
  exact hK' _ _ hK
theorem proof_zero (w : World) : (zeroValue 42).run Tryd.prog w = .ok (.agg #[.int .u64 0, .int .u64 0, .slice none 0 0]) w := by kernel_rfl
theorem info_proof : (Tryd.prog.info? 42).map (fun i => (i.zero, i.size, i.bytes)) = some (some (.agg #[.int .u64 0, .int .u64 0, .slice none 0 0]), 3, 40) := by kernel_rfl

/-- how many entries the map in a block has -/
def mapSize (w : World) (b : Nat) : Nat := match w.heap[b]? with
  | some (.map es _) => es.size
  | _ => 0
theorem mapSize_eq {P : Program} {k : TypeId} {R : Value → Option (DataW Value × List MemPlace)} {w : World} {b n : Nat} {D : DataW Value} (h : w.ownsMap P k R b n D) : mapSize w b = Maps.size D := by
  obtain ⟨es, clock, hb, _, _, rfl⟩ := h
  simp [mapSize, hb, Maps.size, length_sorted]
def sliceLen : Value → Nat
  | .slice _ n _ => n
  | _ => 0
theorem ownsRow_short {w : World} {base : Nat} {e : TypeId} {a : Option Addr} {n cap : Nat} {xs : List Value} (h : w.ownsRow base e 1 (.slice a (n + 1) cap) (n + 1) xs) : w.ownsRow base e 1 (.slice a n cap) n (xs.take n) := by
  have hl := h.1
  refine ⟨by simp; omega, ?_⟩
  rcases h.2 with ⟨hv, h0⟩ | ⟨g, cap', cur, hv, hb, hg, h1, h2, h3, h4⟩
  · omega
  · injection hv with e1 e2 e3
    subst e1; subst e3
    refine .inr ⟨g, cap, cur, rfl, hb, hg, by omega, h2, h3, ?_⟩
    rw [← h4, List.take_take]
    congr 1
    omega
theorem ownsRow_at {w : World} {base : Nat} {e : TypeId} {v : Value} {n : Nat} {xs : List Int} (h : w.ownsRow base e 1 v (n + 1) (xs.map (Value.int .u64))) :
    ∃ g cap, v = .slice (some ⟨g, 0, none⟩) (n + 1) cap ∧ n + 1 ≤ cap ∧ cap ≤ maxLen ∧ w.cell? ⟨g, n, none⟩ = some (.int .u64 (xs.getD n 0)) := by
  have hl := h.1
  simp at hl
  rcases h.2 with ⟨hv, h0⟩ | ⟨g, cap', cur, rfl, hb, hg, h1, h2, h3, h4⟩
  · omega
  · refine ⟨g, cap', rfl, h1, h2, ?_⟩
    rw [h.cellAt n (by omega)]
    simp [List.getD, show n < xs.length by omega]

/-- the parts of a number less one -/
def partsOf (n : Int) : List (Int × Int) := (partsD (n - 1)).1
/-- numbers that Build can show: each with its least root, its parts among them -/
structure Good (dom : List Int) (gen : Int → Int) : Prop where
  range : ∀ n ∈ dom, 3 ≤ n ∧ n ≤ 9223372036854775807
  prime : ∀ n ∈ dom, primeB n = true
  parts : ∀ n ∈ dom, (partsD (n - 1)).2 = 0
  few : ∀ n ∈ dom, (partsOf n).length ≤ 64
  pos : ∀ n ∈ dom, 1 ≤ gen n ∧ gen n ≤ 18446744073709551615
  root : ∀ n ∈ dom, rootB n (gen n) (partsOf n) = true
  least : ∀ n ∈ dom, ∀ j, 1 ≤ j → j < gen n → rootB n j (partsOf n) = false
  down : ∀ n ∈ dom, ∀ q ∈ partsOf n, q.1 = 2 ∨ q.1 ∈ dom
/-- what comes of p by parts -/
def Reach (p n : Int) : Prop := ∀ S : Int → Prop, S p → (∀ m q, S m → q ∈ partsOf m → q.1 ≠ 2 → S q.1) → S n
theorem Reach.self (p : Int) : Reach p p := fun _ h _ => h
theorem Reach.part {p m : Int} (h : Reach p m) {q : Int × Int} (hq : q ∈ partsOf m) (h2 : q.1 ≠ 2) : Reach p q.1 := fun S h0 h1 => h1 m q (h S h0 h1) hq h2
def mkPrf (gen : Int → Int) (n : Int) : Prf := ⟨n, gen n, partsOf n⟩

/-- what the map holds: a proof of each number that is known -/
def Holds1 (gen : Int → Int) (base : Nat) (w : World) (D : DataW Value) (known : List Int) : Prop :=
  ∀ n ∈ known, ∃ v, (∀ z, D.atKey (.int .u64 n) z = .held (.agg #[.int .u64 n, .int .u64 (gen n), v])) ∧ w.ownsRow base 37 2 v (partsOf n).length (flatP (partsOf n))
theorem Holds1.ext {gen : Int → Int} {base : Nat} {w w' : World} {D : DataW Value} {known : List Int} (h : Holds1 gen base w D known) (he : Ext w w') : Holds1 gen base w' D known := fun n hn => by
  obtain ⟨v, h1, h2⟩ := h n hn
  exact ⟨v, h1, ownsRow_ext h2 he⟩
theorem Holds1.kept {gen : Int → Int} {base : Nat} {w w' : World} {D : DataW Value} {known : List Int} (h : Holds1 gen base w D known) {row : Option Nat} (hg : w.grownBy w' row)
    (hr : ∀ v n xs, w.ownsRow base 37 2 v n xs → v.ownBlock = none ∨ v.ownBlock ≠ row) : Holds1 gen base w' D known := fun n hn => by
  obtain ⟨v, h1, h2⟩ := h n hn
  exact ⟨v, h1, h2.kept hg (hr v _ _ h2)⟩
end Go.Proofs.YtncidpckokclbaaDoor
