import Derived.Test.YthomeenmcajmdaaGreatDoorBun04
import Derived.Deep.RegionLaw
import Derived.Laws.AppendOwn
import Derived.Maps.AppendAt
import Derived.Laws.ResultCell
import Derived.Test.YthomeenmcajmdaaGreatDoorMat2
import Derived.Test.YthomeenmcajmdaaGreatDoorBun03
namespace Go.Proofs.YthomeenmcajmdaaGreatDoor
open Go.RowKit Go.Maps
section
variable {P : Program} (w : World)
theorem step_append_at {ops : Array Oper} {o : Oper} {a : Act} {K : Act → World → Prop} {E : Prop} {Q : Exit → Act → World → Prop} (hgd : o.guard = none) (s x : Operand) (t : TypeId)
    (ho : o.op = .call { callee := .builtin .append, args := #[s, x], argTypes := #[t, t] })
    (base : Nat) (e : TypeId) (i : TypeInfo) (z : Value) (size bytes : Nat) (ht : P.underlying t = some (.slice e)) (hi : P.info? e = some i) (hz : i.zero = some z)
    (hsize : i.size = size) (hby : i.bytes = bytes) (hzs : z.cells.size = size) (hsz : 0 < size)
    (v : Value) (n : Nat) (xs : List Value) (hs : a.eval s = v) (hown : w.ownsRow base e size v n xs)
    (ad : Addr) (m c : Nat) (news : List Value) (hx : a.eval x = .slice (some ad) m c) (hl : news.length = m * size) (hnews : ∀ j u, news[j]? = some u → w.cell? (ad.add j) = some u) (h1 : ∀ u ∈ news, u.oneCell' = true)
    (h63 : n + m ≤ maxLen) (hbytes : (n + m) * bytes ≤ 140737488355328) (hbase : base ≤ w.heap.size)
    (h : ∀ v' w', w'.ownsRow base e size v' (n + m) (xs ++ news) → w.grownBy w' v.ownBlock → (v'.ownBlock = v.ownBlock ∨ v'.ownBlock = some w.heap.size) → K (a.put o.dst v') w') :
    if Region.wanted o (yielded ops a.tmps) = true then Oper.wp P o a w K Q else E := by
  have hw : Region.wanted o (yielded ops a.tmps) = true := by simp [Region.wanted, hgd]
  rw [if_pos hw]
  obtain ⟨v', w', hrun, r1, r2, _, r3⟩ := run_append_own_at (P := P) w base t o.type e i z size bytes ht hi hz hsize hby hzs hsz v n xs hown ad m c news hl hnews h1 h63 hbytes hbase
  unfold Oper.wp execOp
  simp only [ho, resolve, invoke, builtin, Sem.run_bind, Sem.run_pure, Result.andThen_ok, List.map_toArray, List.map_cons, List.map_nil, hs, hx, hrun]
  exact h v' w' r1 r2 r3
end
end Go.Proofs.YthomeenmcajmdaaGreatDoor
namespace Go.Proofs.YthomeenmcajmdaaGreatDoor
open Go.RowKit Go.Maps
theorem alloc_size (w : World) (o : Obj) : (w.alloc o).heap.size = w.heap.size + 1 := by simp
theorem setCell_grown (w : World) (p : Addr) (u : Value) : w.grownBy (w.setCell p u) (some p.block) :=
  ⟨rfl, rfl, rfl, by simp [World.setCell], fun k _ hk => heap_setCell_other w p k u (fun e => hk (by rw [e]))⟩
theorem Blk.grown {w w' : World} {g : Nat} {t : TypeId} {cs : Array Value} {row : Option Nat} (h : Blk w g t cs) (hg : w.grownBy w' row) (hr : row ≠ some g) : Blk w' g t cs :=
  (hg.block g h.lt (fun e => hr e.symm)).trans h
theorem own_ints {w : World} {base n : Nat} {v : Value} {xs : List Int} (h : w.ownsRow base 22 1 v n (xs.map (Value.int .u64))) : Ints .u64 w v xs := by
  obtain ⟨a, c, rfl, h1, h2, h3, h4⟩ := WRow.of_owns h
  rcases Nat.eq_zero_or_pos n with h0 | h0
  · exact ⟨a, c, by rw [h3], by omega, h2, fun h => by omega⟩
  · obtain ⟨g4, rfl, hg4, hw4⟩ := h4 h0
    exact hw4.ints' h3 h1 h2
theorem Blk.at4 {w : World} {g : Nat} {t : TypeId} {a b c d : Value} (h : Blk w g t #[a, b, c, d]) : w.cell? ⟨g, 0, none⟩ = some a ∧ w.cell? ⟨g, 1, none⟩ = some b ∧ w.cell? ⟨g, 2, none⟩ = some c ∧ w.cell? ⟨g, 3, none⟩ = some d :=
  ⟨h.cell 0, h.cell 1, h.cell 2, h.cell 3⟩
theorem Blk.two {w : World} {g g' : Nat} {t : TypeId} {cs : Array Value} (h : Blk w g t cs) (i : Nat) (u : Value) (hne : g ≠ g') : Blk (w.setCell ⟨g', i, none⟩ u) g t cs :=
  h.grown (setCell_grown _ _ _) (fun e => hne (by injection e with e; exact e.symm))
section
variable {P : Program}
end
end Go.Proofs.YthomeenmcajmdaaGreatDoor
namespace Go.Proofs.YthomeenmcajmdaaGreatDoor
open Go.RowKit Go.Maps
structure Bld (w0 w : World) (h base : Nat) (r c : Int) (rv : Value) (t : Nat) (G : Nat → Int) : Prop where
  box : Blk w h 26 #[.int .i64 r, .int .i64 c, rv]
  own : w.ownsRow base 22 1 rv t ((tab t G).map (Value.int .u64))
  ext : Ext w0 w
  hb : w0.heap.size ≤ base
  hh : w0.heap.size ≤ h
theorem Bld.ext' {w0 w w' : World} {h base : Nat} {r c : Int} {rv : Value} {t : Nat} {G : Nat → Int} (b : Bld w0 w h base r c rv t G) (y : Ext w w') : Bld w0 w' h base r c rv t G :=
  ⟨b.box.ext y, ownsRow_ext b.own y, b.ext.trans y, b.hb, b.hh⟩
theorem Bld.box' {w0 w w' : World} {h base : Nat} {r c : Int} {rv : Value} {t : Nat} {G : Nat → Int} (b : Bld w0 w h base r c rv t G) (hg : w.grownBy w' rv.ownBlock) : w'.cell? ⟨h, 2, none⟩ = some rv ∧ w'.frozen? ⟨h, 2, none⟩ = false := by
  have hne : rv.ownBlock ≠ some h := by
    rcases ownsRow_blk b.own b.box (by decide) with e | e
    · rw [e]; simp
    · exact e
  exact ⟨(b.box.grown hg hne).cell 2, (b.box.grown hg hne).frozen 2⟩
theorem Bld.other {w0 w w' : World} {h base g : Nat} {r c : Int} {rv v' : Value} {t : Nat} {G : Nat → Int} {ty : TypeId} {cs : Array Value} (b : Bld w0 w h base r c rv t G) (hB : Blk w g ty cs) (hty : 22 ≠ ty) (hgh : g ≠ h) (hg : w.grownBy w' rv.ownBlock) :
    Blk (w'.setCell ⟨h, 2, none⟩ v') g ty cs := by
  have hne : rv.ownBlock ≠ some g := by
    rcases ownsRow_blk b.own hB hty with e | e
    · rw [e]; simp
    · exact e
  exact (hB.grown hg hne).grown (setCell_grown _ _ _) (fun e => hgh (by injection e with e; exact e.symm))
theorem Blk.at3 {w : World} {g : Nat} {t : TypeId} {a b c : Value} (h : Blk w g t #[a, b, c]) : w.cell? ⟨g, 0, none⟩ = some a ∧ w.cell? ⟨g, 1, none⟩ = some b ∧ w.cell? ⟨g, 2, none⟩ = some c :=
  ⟨h.cell 0, h.cell 1, h.cell 2⟩
end Go.Proofs.YthomeenmcajmdaaGreatDoor
namespace Go.Proofs.YthomeenmcajmdaaGreatDoor
open Go.RowKit
theorem WRow.grown {w w' : World} {g off : Nat} {xs : List Int} {row : Option Nat} (h : WRow w g off xs) (hg : w.grownBy w' row) (hr : row ≠ some g) : WRow w' g off xs := by
  have hb : w'.heap[g]? = w.heap[g]? := hg.block g h.1 (fun e => hr e.symm)
  refine ⟨Nat.lt_of_lt_of_le h.1 hg.size, fun j hj => ?_⟩
  obtain ⟨h1, h2⟩ := h.2 j hj
  constructor
  · rw [← h1]; simp only [World.cell?, hb]
  · rw [← h2]; simp only [World.frozen?, hb]
theorem WRow.set_other {w : World} {g off b o : Nat} {v : Value} {xs : List Int} (h : WRow w g off xs) (hne : g ≠ b) : WRow (w.setCell ⟨b, o, none⟩ v) g off xs :=
  ⟨by simpa [World.setCell] using h.1, fun j hj => ⟨(World.cell?_setCell_other _ _ _ _ (by intro e'; injection e' with e1 _; exact hne e1.symm)).trans (h.2 j hj).1, by rw [World.frozen?_setCell]; exact (h.2 j hj).2⟩⟩
structure Grid (w : World) (G m n : Nat) (gs cs : Nat → Nat) (R : Nat → List Int) : Prop where
  blk : G < w.heap.size
  hdr : ∀ i, i < m → w.cell? ⟨G, i, none⟩ = some (.slice (some ⟨gs i, 0, none⟩) n (cs i)) ∧ w.frozen? ⟨G, i, none⟩ = false
  row : ∀ i, i < m → WRow w (gs i) 0 (R i)
  len : ∀ i, i < m → (R i).length = n ∧ n ≤ cs i ∧ cs i ≤ 9223372036854775807
  off : ∀ i, i < m → gs i ≠ G
  two : ∀ i j, i < m → j < m → gs i = gs j → i = j
theorem Grid.ext {w w' : World} {G m n : Nat} {gs cs : Nat → Nat} {R : Nat → List Int} (h : Grid w G m n gs cs R) (he : Ext w w') : Grid w' G m n gs cs R :=
  ⟨Nat.lt_of_lt_of_le h.blk he.size, fun i hi => ⟨(he.cells _ _ h.blk).trans (h.hdr i hi).1, by rw [Below.frozen (p := ⟨G, i, none⟩) he h.blk]; exact (h.hdr i hi).2⟩, fun i hi => (h.row i hi).ext he, h.len, h.off, h.two⟩
theorem Grid.put {w : World} {G m n : Nat} {gs cs : Nat → Nat} {R : Nat → List Int} (h : Grid w G m n gs cs R) {i j : Nat} (hi : i < m) (hj : j < n) (x : Int) :
    Grid (w.setCell ⟨gs i, j, none⟩ (.int .u64 x)) G m n gs cs (fun o => if o = i then (R i).set j x else R o) := by
  refine ⟨by simpa [World.setCell] using h.blk, fun o ho => ⟨(World.cell?_setCell_other _ _ _ _ (by intro e'; injection e' with e1 _; exact h.off i hi e1)).trans (h.hdr o ho).1, by rw [World.frozen?_setCell]; exact (h.hdr o ho).2⟩, fun o ho => ?_, fun o ho => ?_, h.off, h.two⟩
  · by_cases e : o = i
    · subst e
      rw [if_pos rfl]
      have := (h.row o ho).set_ (i := j) (by rw [(h.len o ho).1]; exact hj) x
      rwa [Nat.zero_add] at this
    · rw [if_neg e]
      exact (h.row o ho).set_other fun e2 => e (h.two o i ho hi e2)
  · by_cases e : o = i
    · subst e
      rw [if_pos rfl, List.length_set]; exact h.len o ho
    · rw [if_neg e]; exact h.len o ho
def swapN {α : Type} (f : Nat → α) (a b : Nat) : Nat → α := fun i => if i = a then f b else if i = b then f a else f i
theorem Grid.swap {w : World} {G m n : Nat} {gs cs : Nat → Nat} {R : Nat → List Int} (h : Grid w G m n gs cs R) {a b : Nat} (ha : a < m) (hb : b < m) :
    Grid ((w.setCell ⟨G, a, none⟩ (.slice (some ⟨gs b, 0, none⟩) n (cs b))).setCell ⟨G, b, none⟩ (.slice (some ⟨gs a, 0, none⟩) n (cs a))) G m n (swapN gs a b) (swapN cs a b) (swapN R a b) := by
  have key : ∀ i, i < m → ∃ k, k < m ∧ (i = a ∧ k = b ∨ i ≠ a ∧ i = b ∧ k = a ∨ i ≠ a ∧ i ≠ b ∧ k = i) ∧ swapN gs a b i = gs k ∧ swapN cs a b i = cs k ∧ swapN R a b i = R k := fun i hi => by
    unfold swapN
    by_cases e1 : i = a
    · exact ⟨b, hb, .inl ⟨e1, rfl⟩, by rw [if_pos e1], by rw [if_pos e1], by rw [if_pos e1]⟩
    · by_cases e2 : i = b
      · exact ⟨a, ha, .inr (.inl ⟨e1, e2, rfl⟩), by rw [if_neg e1, if_pos e2], by rw [if_neg e1, if_pos e2], by rw [if_neg e1, if_pos e2]⟩
      · exact ⟨i, hi, .inr (.inr ⟨e1, e2, rfl⟩), by rw [if_neg e1, if_neg e2], by rw [if_neg e1, if_neg e2], by rw [if_neg e1, if_neg e2]⟩
  refine ⟨by simpa [World.setCell] using h.blk, fun i hi => ?_, fun i hi => ?_, fun i hi => ?_, fun i hi => ?_, fun i j hi hj e => ?_⟩
  · obtain ⟨k, hk, hc, e1, e2, e3⟩ := key i hi
    rw [e1, e2]
    refine ⟨?_, by rw [World.frozen?_setCell, World.frozen?_setCell]; exact (h.hdr i hi).2⟩
    have hs : ∀ v, (w.setCell ⟨G, a, none⟩ v).cell? ⟨G, b, none⟩ ≠ none := fun v => by
      by_cases e : a = b
      · subst e; rw [World.cell?_setCell_same _ _ _ (h.hdr a ha).1]; simp
      · rw [World.cell?_setCell_other _ _ _ _ (by intro e'; injection e' with _ e2; exact e e2), (h.hdr b hb).1]; simp
    by_cases eb : i = b
    · subst eb
      obtain ⟨u, hu⟩ := Option.ne_none_iff_exists'.1 (hs (.slice (some ⟨gs i, 0, none⟩) n (cs i)))
      rw [World.cell?_setCell_same _ _ _ hu]
      rcases hc with ⟨r1, r2⟩ | ⟨_, _, r2⟩ | ⟨_, r1, _⟩
      · rw [r2, r1]
      · rw [r2]
      · exact absurd rfl r1
    · rw [World.cell?_setCell_other _ _ _ _ (by intro e'; injection e' with _ e2; exact eb e2.symm)]
      by_cases ea : i = a
      · subst ea
        rw [World.cell?_setCell_same _ _ _ (h.hdr i hi).1]
        rcases hc with ⟨_, r2⟩ | ⟨r1, _⟩ | ⟨r1, _⟩
        · rw [r2]
        · exact absurd rfl r1
        · exact absurd rfl r1
      · rw [World.cell?_setCell_other _ _ _ _ (by intro e'; injection e' with _ e2; exact ea e2.symm), (h.hdr i hi).1]
        rcases hc with ⟨r1, _⟩ | ⟨_, r1, _⟩ | ⟨_, _, r2⟩
        · exact absurd r1 ea
        · exact absurd r1 eb
        · rw [r2]
  · obtain ⟨k, hk, hc, e1, e2, e3⟩ := key i hi
    rw [e1, e3]
    exact ((h.row k hk).set_other (h.off k hk)).set_other (h.off k hk)
  · obtain ⟨k, hk, hc, e1, e2, e3⟩ := key i hi
    rw [e2, e3]; exact h.len k hk
  · obtain ⟨k, hk, hc, e1, e2, e3⟩ := key i hi
    rw [e1]; exact h.off k hk
  · obtain ⟨k, hk, hc, e1, e2, e3⟩ := key i hi
    obtain ⟨k', hk', hc', e1', e2', e3'⟩ := key j hj
    rw [e1, e1'] at e
    have := h.two k k' hk hk' e
    omega
end Go.Proofs.YthomeenmcajmdaaGreatDoor
namespace Go.Proofs.YthomeenmcajmdaaGreatDoor
open Go.RowKit Go.Maps
theorem results_cell_row_tmp {P : Program} {fn : Func} {p u : Tmp} {ty : TypeId} (h : fn.results = #[.cell p ty, .tmp u]) (tmps : Array Value) (w : World) (g : Nat) (t : TypeId) (cs : Array Value) (fr : Nat × Nat) (d : TypeDesc)
    (hp : tmps.getD p undef = .pointer (some ⟨g, 0, none⟩)) (hg : w.heap[g]? = some (.cells cs t fr))
    (hu : P.underlying ty = some d) (hd : (match d with | .struct _ | .array _ _ => true | _ => false) = true) (hi : (P.info? ty).map (·.size) = some cs.size) :
    (results fn tmps).run P w = .ok (.tuple #[.agg cs, tmps.getD u undef]) w := by
  have hp' : tmps[p]?.getD undef = .pointer (some ⟨g, 0, none⟩) := by simpa using hp
  simp [results, h, hp', asAddr, run_loadVar_row w g t ty cs fr d hg hu hd hi, Result.andThen]
def sideB (n : Int) : Bool := decide (1 ≤ n ∧ n ≤ 64)
theorem mxSide (n : Int) (w : World) : Calls Tryz.prog 92 #[.int .i64 n] w fun e w' => e = .returned (.bool (sideB n)) ∧ w = w' := by
  by_cases h : 1 ≤ n
  · by_cases h' : n ≤ 64
    all_goals
      go_enter Tryz.func92, Tryz.ntmps92
      go_wp2
      go_ret
      exact ⟨ret_bool (by simp [sideB]; omega), rfl⟩
  · go_enter Tryz.func92, Tryz.ntmps92
    go_wp2
    go_ret
    exact ⟨ret_bool (by simp [sideB]; omega), rfl⟩
theorem mxSides (r c : Int) (w : World) : Calls Tryz.prog 59 #[.int .i64 r, .int .i64 c] w fun e w' => e = .returned (.bool (sideB r && sideB c)) ∧ w = w' := by
  cases hB : sideB r
  · go_enter Tryz.func59, Tryz.ntmps59
    go_wp2_with (go_at_call 92; refine (mxSide _ _).mono ?_; rintro _ _ ⟨rfl, rfl⟩)
    go_ret
    exact ⟨rfl, rfl⟩
  · go_enter Tryz.func59, Tryz.ntmps59
    go_wp2_with (go_at_call 92; refine (mxSide _ _).mono ?_; rintro _ _ ⟨rfl, rfl⟩)
    go_ret
    exact ⟨ret_bool (by simp), rfl⟩
def vecB (p many : Int) (xs : List Int) : Bool := decide ((xs.length : Int) = many) && hasB p xs
theorem mxVector (p many : Int) (v : Value) (xs : List Int) (w : World) (h0 : 0 ≤ p) (h1 : p ≤ 18446744073709551615) (hv : Ints .u64 w v xs) (hx : U64s xs) :
    Calls Tryz.prog 45 #[.int .u64 p, v, .int .i64 many] w fun e w' => e = .returned (.bool (vecB p many xs)) ∧ w = w' := by
  have H := hid (has_any p v xs w h0 h1 hv hx)
  obtain ⟨B, hB⟩ : ∃ B, hasB p xs = B := ⟨_, rfl⟩
  unfold vecB
  rw [hB] at H ⊢
  obtain ⟨a, cap, rfl, k1, k2, k3⟩ := hv
  clear k3 hB hx
  by_cases e : (xs.length : Int) = many
  · have b : ((xs.length : Int) == many) = true := by simp [e]
    rw [decide_eq_true e]
    clear e
    go_enter Tryz.func45, Tryz.ntmps45
    go_wp2_with (go_at_call 60; refine H.out.mono ?_; rintro _ _ ⟨rfl, rfl⟩)
    go_ret
    exact ⟨ret_bool (by simp), rfl⟩
  · have b : ((xs.length : Int) == many) = false := by simp [e]
    rw [decide_eq_false e]
    clear e
    go_enter Tryz.func45, Tryz.ntmps45
    go_wp2_with fail
    go_ret
    exact ⟨rfl, rfl⟩
set_option maxHeartbeats 400000 in
theorem mxRow (r c : Int) (n i b off len cap : Nat) (w : World) (hc : c = n) (hn : 1 ≤ n ∧ n ≤ 64) (hi : i ≤ 64) (h1 : i * n + n ≤ cap) (h2 : cap ≤ 9223372036854775807) :
    Calls Tryz.prog 47 #[matV r c (.slice (some ⟨b, off, none⟩) len cap), .int .i64 i] w (Ret (.slice (some ⟨b, off + i * n, none⟩) n (cap - i * n)) w) := by
  subst hc
  obtain ⟨q, hq⟩ : ∃ q, i * n = q := ⟨_, rfl⟩
  have hqb : q ≤ 4096 := by rw [← hq]; exact Nat.mul_le_mul hi hn.2
  have hqi : (i : Int) * (n : Int) = (q : Int) := by rw [← hq]; push_cast; rfl
  have hqs : ((i : Int) + 1) * (n : Int) = ((q + n : Nat) : Int) := by rw [Int.add_mul, hqi]; push_cast; omega
  rw [hq] at h1 ⊢
  obtain ⟨m, hm⟩ : ∃ m, q + n = m := ⟨_, rfl⟩
  rw [hm] at hqs h1
  have e : m - q = n := by omega
  have hs := fun W => slice_run b off len cap q m (by omega) h1 (by omega) W
  have hs' := fun W => slice_run' b off len cap q m (by omega) h1 (by omega) W
  rw [e] at hs hs'
  clear hq e
  unfold matV
  go_enter Tryz.func47, Tryz.ntmps47
  go_wp2_with fail
  go_ret
  exact ⟨rfl, (by repeat (first | exact Ext.refl _ | assumption | refine Ext.drew ?_ | refine Ext.drewN ?_ _ | refine Ext.alloc ?_ _ | refine Ext.trans ?_ (by assumption)))⟩
set_option maxHeartbeats 400000 in
theorem mxNoughts (r c : Nat) (w : World) (hr : r ≤ 64) (hc : c ≤ 64) :
    Calls Tryz.prog 111 #[.int .i64 r, .int .i64 c] w fun e w' => ∃ g, e = .returned (matV r c (.slice (some ⟨g, 0, none⟩) (r * c) (r * c))) ∧ w.heap.size ≤ g ∧ WRow w' g 0 (List.replicate (r * c) 0) ∧ Ext w w' := by
  obtain ⟨q, hq⟩ : ∃ q, r * c = q := ⟨_, rfl⟩
  have hqi : (r : Int) * (c : Int) = (q : Int) := by rw [← hq]; push_cast; rfl
  have hqb : q ≤ 4096 := by rw [← hq]; exact Nat.mul_le_mul hr hc
  have hmk := make_ints (P := Tryz.prog) 24 22 .u64 8 (by omega) (by kernel_rfl) (by kernel_rfl) q q (Nat.le_refl _) (by omega)
  rw [hq]
  clear hq
  unfold matV
  go_enter Tryz.func111, Tryz.ntmps111
  go_wp2_with fail
  refine bodyPost_ret (results_cell_row rfl _ _ w.heap.size 26 #[.int .i64 (r : Int), .int .i64 (c : Int), .slice (some ⟨w.heap.size + 1, 0, none⟩) q q] (0, 0) _ rfl (Blk.ext (Blk.new w 26 _) ((Ext.refl _).alloc _)) Tryz.underlying26 rfl (by kernel_rfl)) rfl ?_
  exact ⟨w.heap.size + 1, rfl, by omega, WRow.made (by rw [alloc_size]), (by repeat (first | exact Ext.refl _ | assumption | refine Ext.drew ?_ | refine Ext.drewN ?_ _ | refine Ext.alloc ?_ _ | refine Ext.trans ?_ (by assumption)))⟩
end Go.Proofs.YthomeenmcajmdaaGreatDoor
namespace Go.Proofs.YthomeenmcajmdaaGreatDoor
variable {p : Int}
def timesL (p : Int) (m n : Nat) (xs ys : List Int) : List Int := tab m fun i => dv p n (fun k => xs.getD (i * n + k) 0) fun k => ys.getD k 0
def leftL (p : Int) (m n : Nat) (xs ys : List Int) : List Int := tab n fun k => dv p m (fun i => xs.getD (i * n + k) 0) fun i => ys.getD i 0
def mulL (p : Int) (m n q : Nat) (xs ys : List Int) : List Int := grid m q fun i k => dv p n (fun j => xs.getD (i * n + j) 0) fun j => ys.getD (j * q + k) 0
def turnL (m n : Nat) (xs : List Int) : List Int := grid n m fun k i => xs.getD (i * n + k) 0
def oneL (n : Nat) : List Int := grid n n fun i k => if i = k then 1 else 0
theorem timesL_len (m n : Nat) (xs ys : List Int) : (timesL p m n xs ys).length = m := tab_len _ _
theorem leftL_len (m n : Nat) (xs ys : List Int) : (leftL p m n xs ys).length = n := tab_len _ _
theorem mulL_len (m n q : Nat) (xs ys : List Int) : (mulL p m n q xs ys).length = m * q := grid_len _ _ _
theorem turnL_len (m n : Nat) (xs : List Int) : (turnL m n xs).length = n * m := grid_len _ _ _
theorem oneL_len (n : Nat) : (oneL n).length = n * n := grid_len _ _ _
theorem timesL_rng (hp : 2 ≤ p) (m n : Nat) (xs ys : List Int) : Rng p (timesL p m n xs ys) := tab_rng fun _ _ => dv_range hp _ _ _
theorem mulL_rng (hp : 2 ≤ p) (m n q : Nat) (xs ys : List Int) : Rng p (mulL p m n q xs ys) := grid_rng fun _ _ _ _ => dv_range hp _ _ _
theorem turnL_rng (hp : 2 ≤ p) {xs : List Int} (h : Rng p xs) (m n : Nat) : Rng p (turnL m n xs) := grid_rng fun _ _ _ _ => h.getD hp _
theorem oneL_rng (hp : 2 ≤ p) (n : Nat) : Rng p (oneL n) := grid_rng fun _ _ _ _ => by split <;> omega
theorem times_mul (m n q : Nat) (xs ys zs : List Int) : timesL p m n xs (timesL p n q ys zs) = timesL p m q (mulL p m n q xs ys) zs := by
  unfold timesL
  refine tab_congr fun i hi => ?_
  rw [dv_congr (fun _ _ => rfl) fun k hk => tab_get _ hk, dv_assoc]
  exact dv_congr (fun j hj => by rw [mulL, grid_get _ hi hj]) fun _ _ => rfl
theorem one_mul {m n : Nat} {xs : List Int} (h : xs.length = m * n) (hr : Rng p xs) : mulL p m m n (oneL m) xs = xs := by
  unfold mulL
  refine Eq.trans (grid_congr fun i k hi hk => ?_) (grid_self h)
  rw [dv_congr (b := fun j => if j = i then 1 else 0) (fun j hj => by
    rw [oneL, grid_get _ hi hj]
    by_cases e : j = i
    · rw [if_pos e, if_pos e.symm]
    · rw [if_neg e, if_neg fun h => e h.symm]) (fun _ _ => rfl), dv_one _ hi]
  exact mod_small (hr.get (by rw [h]; exact at_lt hi hk)).1 (hr.get (by rw [h]; exact at_lt hi hk)).2
theorem mul_one {m n : Nat} {xs : List Int} (h : xs.length = m * n) (hr : Rng p xs) : mulL p m n n xs (oneL n) = xs := by
  unfold mulL
  refine Eq.trans (grid_congr fun i k hi hk => ?_) (grid_self h)
  rw [dv_comm, dv_congr (b := fun j => if j = k then 1 else 0) (fun j hj => by rw [oneL, grid_get _ hj hk]) (fun _ _ => rfl), dv_one _ hk]
  exact mod_small (hr.get (by rw [h]; exact at_lt hi hk)).1 (hr.get (by rw [h]; exact at_lt hi hk)).2
end Go.Proofs.YthomeenmcajmdaaGreatDoor
namespace Go.Proofs.YthomeenmcajmdaaGreatDoor
open Go.RowKit Go.Maps
theorem mxRight (p r c : Int) (v : Value) (xs : List Int) (w : World) (h0 : 0 ≤ p) (h1 : p ≤ 18446744073709551615) (hv : Ints .u64 w v xs) (hx : U64s xs) :
    Calls Tryz.prog 27 #[.int .u64 p, matV r c v] w (Ret (.bool (matB p r c xs)) w) := by
  have hh := fun (W : World) (hW : Ext w W) => has_any p v xs W h0 h1 (hv.ext hW) hx
  obtain ⟨R, hR⟩ : ∃ R, matB p r c xs = R := ⟨_, rfl⟩
  rw [hR]
  unfold matB at hR
  obtain ⟨B, hB⟩ : ∃ B, hasB p xs = B := ⟨_, rfl⟩
  rw [hB] at hR hh
  obtain ⟨a, cap, rfl, hc1, hc2, hc⟩ := hv
  have Hh := hid hh
  clear hB hh hc hx
  unfold matV
  by_cases g1 : 1 ≤ r ∧ r ≤ 64
  · rw [decide_eq_true g1, Bool.true_and] at hR
    have s1 : sideB r = true := decide_eq_true g1
    by_cases g2 : 1 ≤ c ∧ c ≤ 64
    · rw [decide_eq_true g2, Bool.true_and] at hR
      have s2 : sideB c = true := decide_eq_true g2
      have q1 : 0 ≤ r * c := Int.mul_nonneg (by omega) (by omega)
      have q2 : r * c ≤ 64 * 64 := Int.mul_le_mul g1.2 g2.2 (by omega) (by omega)
      obtain ⟨q, hq⟩ : ∃ q, r * c = q := ⟨_, rfl⟩
      rw [hq] at hR q1 q2
      clear g1 g2
      by_cases g5 : (xs.length : Int) = q
      · rw [decide_eq_true g5, Bool.true_and] at hR
        subst hR
        have b5 : ((xs.length : Int) == q) = true := by simp [g5]
        clear g5
        go_enter Tryz.func27, Tryz.ntmps27
        go_wp2_with (first
          | (go_at_call 59; refine (mxSides _ _ _).mono ?_; rintro _ _ ⟨rfl, rfl⟩)
          | (go_at_call 60; refine (Hh.out _ (by repeat (first | exact Ext.refl _ | assumption | refine Ext.drew ?_ | refine Ext.drewN ?_ _ | refine Ext.alloc ?_ _ | refine Ext.trans ?_ (by assumption)))).mono ?_; rintro _ _ ⟨rfl, rfl⟩))
        go_ret
        exact ⟨rfl, (by repeat (first | exact Ext.refl _ | assumption | refine Ext.drew ?_ | refine Ext.drewN ?_ _ | refine Ext.alloc ?_ _ | refine Ext.trans ?_ (by assumption)))⟩
      · rw [decide_eq_false g5, Bool.false_and] at hR
        subst hR
        have b5 : ((xs.length : Int) == q) = false := by simp [g5]
        clear g5
        go_enter Tryz.func27, Tryz.ntmps27
        go_wp2_with (go_at_call 59; refine (mxSides _ _ _).mono ?_; rintro _ _ ⟨rfl, rfl⟩)
        go_ret
        exact ⟨rfl, (by repeat (first | exact Ext.refl _ | assumption | refine Ext.drew ?_ | refine Ext.drewN ?_ _ | refine Ext.alloc ?_ _ | refine Ext.trans ?_ (by assumption)))⟩
    · rw [decide_eq_false g2, Bool.false_and] at hR
      subst hR
      have s2 : sideB c = false := decide_eq_false g2
      clear g1 g2
      go_enter Tryz.func27, Tryz.ntmps27
      go_wp2_with (go_at_call 59; refine (mxSides _ _ _).mono ?_; rintro _ _ ⟨rfl, rfl⟩)
      go_ret
      exact ⟨rfl, (by repeat (first | exact Ext.refl _ | assumption | refine Ext.drew ?_ | refine Ext.drewN ?_ _ | refine Ext.alloc ?_ _ | refine Ext.trans ?_ (by assumption)))⟩
  · rw [decide_eq_false g1, Bool.false_and] at hR
    subst hR
    have s1 : sideB r = false := decide_eq_false g1
    clear g1
    go_enter Tryz.func27, Tryz.ntmps27
    go_wp2_with (go_at_call 59; refine (mxSides _ _ _).mono ?_; rintro _ _ ⟨rfl, rfl⟩)
    go_ret
    exact ⟨rfl, (by repeat (first | exact Ext.refl _ | assumption | refine Ext.drew ?_ | refine Ext.drewN ?_ _ | refine Ext.alloc ?_ _ | refine Ext.trans ?_ (by assumption)))⟩
structure MatOk (p : Int) (m n : Nat) (xs : List Int) : Prop where
  hp : rightB p = true
  hx : Rng p xs
  hm : 1 ≤ m ∧ m ≤ 64
  hn : 1 ≤ n ∧ n ≤ 64
  hl : xs.length = m * n
theorem MatOk.u64 {p : Int} {m n : Nat} {xs : List Int} (h : MatOk p m n xs) : U64s xs := h.hx.u64 (rightB_true h.hp).2
theorem MatOk.b {p : Int} {m n : Nat} {xs : List Int} (h : MatOk p m n xs) : matB p m n xs = true := (matB_iff h.u64).2 ⟨h.hp, h.hx, m, n, rfl, rfl, h.hm.1, h.hm.2, h.hn.1, h.hn.2, h.hl⟩
theorem MatOk.of {p r c : Int} {xs : List Int} (hx : U64s xs) (h : matB p r c xs = true) : ∃ m n : Nat, r = m ∧ c = n ∧ MatOk p m n xs := by
  obtain ⟨h1, h2, m, n, rfl, rfl, h3, h4, h5, h6, h7⟩ := (matB_iff hx).1 h
  exact ⟨m, n, rfl, rfl, h1, h2, ⟨h3, h4⟩, ⟨h5, h6⟩, h7⟩
theorem MatOk.pos {p : Int} {m n : Nat} {xs : List Int} (h : MatOk p m n xs) : 0 < xs.length := by rw [h.hl]; exact Nat.mul_pos h.hm.1 h.hn.1
theorem MatOk.at_ {p : Int} {m n : Nat} {xs : List Int} (h : MatOk p m n xs) {i : Nat} (hi : i < m) : i * n + n ≤ xs.length := by
  rw [h.hl, ← Nat.succ_mul]; exact Nat.mul_le_mul_right _ hi
def piece (xs : List Int) (i n : Nat) : List Int := (xs.drop (i * n)).take n
theorem piece_len {xs : List Int} {i n : Nat} (h : i * n + n ≤ xs.length) : (piece xs i n).length = n := by simp [piece]; omega
theorem piece_get (xs : List Int) (i n k : Nat) (h : k < n) : (piece xs i n).getD k 0 = xs.getD (i * n + k) 0 := sub_get xs _ n k h
theorem piece_rng {p : Int} {xs : List Int} (h : Rng p xs) (i n : Nat) : Rng p (piece xs i n) := fun x hx => h x (List.mem_of_mem_drop (List.mem_of_mem_take hx))
theorem dot_piece {p : Int} {xs ys : List Int} {i n : Nat} (h : i * n + n ≤ xs.length) (hy : ys.length = n) : dotZ (piece xs i n) ys % p = dv p n (fun k => xs.getD (i * n + k) 0) fun k => ys.getD k 0 := by
  rw [dv_dotZ (piece_len h) hy]
  exact dv_congr (fun k hk => piece_get xs i n k hk) fun _ _ => rfl
theorem vecB_yes {p : Int} {n : Nat} {ys : List Int} (hp : rightB p = true) (hy : Rng p ys) (hl : ys.length = n) : vecB p n ys = true := by
  unfold vecB
  rw [hl, hy.has hp, decide_eq_true rfl]; rfl
def RetV (l : List Int) (w : World) (e : Ending) (w' : World) : Prop := ∃ v, e = .returned (.tuple #[v, .int .i64 0]) ∧ Ints .u64 w' v l ∧ Ext w w'
def RetN (r c : Int) (l : List Int) (w : World) (e : Ending) (w' : World) : Prop := ∃ u, e = .returned (.tuple #[matV r c u, .int .i64 0]) ∧ Ints .u64 w' u l ∧ Ext w w'
theorem mxTimes_no (p r c : Int) (v u : Value) (xs ys : List Int) (w : World) (h0 : 0 ≤ p) (h1 : p ≤ 18446744073709551615) (hv : Ints .u64 w v xs) (hx : U64s xs) (hu : Ints .u64 w u ys) (hy : U64s ys) (h : (matB p r c xs && vecB p c ys) = false) :
    Calls Tryz.prog 21 #[.int .u64 p, matV r c v, u] w (Ret (.tuple #[.slice none 0 0, .int .i64 1]) w) := by
  have C1 := hid fun (W : World) (hW : Ext w W) => mxRight p r c v xs W h0 h1 (hv.ext hW) hx
  have C2 := hid fun (W : World) (hW : Ext w W) => mxVector p c u ys W h0 h1 (hu.ext hW) hy
  obtain ⟨a, cap, rfl, k1, k2, k3⟩ := hv
  clear k3 hu hx hy
  have hbox := hid (box3 w 26 (.int .i64 r) (.int .i64 c) (.slice a xs.length cap))
  unfold matV at C1
  unfold matV
  cases g1 : matB p r c xs
  · rw [g1] at C1
    clear h g1
    go_enter Tryz.func21, Tryz.ntmps21
    go_wp2_with (go_at_call 27; refine (C1.out _ (by repeat (first | exact Ext.refl _ | assumption | refine Ext.drew ?_ | refine Ext.drewN ?_ _ | refine Ext.alloc ?_ _ | refine Ext.trans ?_ (by assumption)))).mono ?_; rintro _ w1 ⟨rfl, x1⟩)
    go_ret2
    exact ⟨rfl, Ext.trans (by repeat (first | exact Ext.refl _ | assumption | refine Ext.drew ?_ | refine Ext.drewN ?_ _ | refine Ext.alloc ?_ _ | refine Ext.trans ?_ (by assumption))) x1⟩
  · rw [g1, Bool.true_and] at h
    rw [g1] at C1
    rw [h] at C2
    clear h g1
    go_enter Tryz.func21, Tryz.ntmps21
    go_wp2_with (first
      | (go_at_call 27; refine (C1.out _ (by repeat (first | exact Ext.refl _ | assumption | refine Ext.drew ?_ | refine Ext.drewN ?_ _ | refine Ext.alloc ?_ _ | refine Ext.trans ?_ (by assumption)))).mono ?_; rintro _ w1 ⟨rfl, x1⟩; obtain ⟨b0, b1, b2⟩ := hbox.out w1 x1)
      | (go_at_call 45; refine (C2.out _ (Ext.trans (by repeat (first | exact Ext.refl _ | assumption | refine Ext.drew ?_ | refine Ext.drewN ?_ _ | refine Ext.alloc ?_ _ | refine Ext.trans ?_ (by assumption))) x1)).mono ?_; rintro _ _ ⟨rfl, rfl⟩))
    go_ret2
    exact ⟨rfl, Ext.trans (by repeat (first | exact Ext.refl _ | assumption | refine Ext.drew ?_ | refine Ext.drewN ?_ _ | refine Ext.alloc ?_ _ | refine Ext.trans ?_ (by assumption))) x1⟩
set_option maxRecDepth 100000 in
set_option maxHeartbeats 1000000 in
theorem mxTimes_yes (p : Int) (m n : Nat) (v u : Value) (xs ys : List Int) (w : World) (ok : MatOk p m n xs) (hv : Ints .u64 w v xs) (hu : Ints .u64 w u ys) (hy : Rng p ys) (hyl : ys.length = n) :
    Calls Tryz.prog 21 #[.int .u64 p, matV m n v, u] w (RetV (timesL p m n xs ys) w) := by
  have hp2 := rightB_true ok.hp
  have C1 := hid fun (W : World) (hW : Ext w W) => mxRight p m n v xs W (by omega) (by omega) (hv.ext hW) ok.u64
  have C2 := hid fun (W : World) (hW : Ext w W) => mxVector p n u ys W (by omega) (by omega) (hu.ext hW) (hy.u64 hp2.2)
  rw [ok.b] at C1
  rw [vecB_yes ok.hp hy hyl] at C2
  have Ok := hid ok; have Hv := hid hv; have Hu := hid hu; have Hy := hid hy; have Hyl := hid hyl
  have hm := ok.hm; have hn := ok.hn
  obtain ⟨a, cap, rfl, k1, k2, k3⟩ := hv
  obtain ⟨b, off, rfl, hb, k4⟩ := k3 ok.pos
  have hcap := hid fun (i : Nat) (h : i < m) => Nat.le_trans (ok.at_ h) k1
  clear k3 k4 hu hy hyl ok
  obtain ⟨F, hF⟩ : ∃ F : Nat → Int, (fun i => dv p n (fun k => xs.getD (i * n + k) 0) fun k => ys.getD k 0) = F := ⟨_, rfl⟩
  have HF := hid (fun i => (congrFun hF i : dv p n (fun k => xs.getD (i * n + k) 0) (fun k => ys.getD k 0) = F i))
  unfold timesL
  rw [hF]
  clear hF
  have hmk := make_ints (P := Tryz.prog) 24 22 .u64 8 (by omega) (by kernel_rfl) (by kernel_rfl) m m (Nat.le_refl _) (by omega)
  have hbox := hid (box3 w 26 (.int .i64 (m : Int)) (.int .i64 (n : Int)) (.slice (some ⟨b, off, none⟩) xs.length cap))
  have hx0 : Ext w (w.alloc (.cells #[.int .i64 (m : Int), .int .i64 (n : Int), .slice (some ⟨b, off, none⟩) xs.length cap] 26)) := (Ext.refl w).alloc _
  have hrl := hid (List.length_replicate (n := m) (a := (0 : Int)))
  unfold matV at C1
  unfold matV
  go_enter Tryz.func21, Tryz.ntmps21
  go_wp2_with (first
    | (go_at_call 27; refine (C1.out _ (by repeat (first | exact Ext.refl _ | assumption | refine Ext.drew ?_ | refine Ext.drewN ?_ _ | refine Ext.alloc ?_ _ | refine Ext.trans ?_ (by assumption)))).mono ?_; rintro _ w1 ⟨rfl, x1⟩; obtain ⟨b0, b1, b2⟩ := hbox.out w1 x1)
    | (go_at_call 45; refine (C2.out _ (hx0.trans x1)).mono ?_; rintro _ _ ⟨rfl, rfl⟩))
  have hrow := hid (WRow.made (w := w1) (t := 22) (n := m) rfl)
  obtain ⟨g, hg⟩ : ∃ g, w1.heap.size = g := ⟨_, rfl⟩
  have hgw : w1.heap.size ≤ g := by omega
  obtain ⟨w2, hw2⟩ : ∃ w2, w1.alloc (.cells (madeCells #[Value.int .u64 0] m) 22) = w2 := ⟨_, rfl⟩
  have hx2 : Ext w1 w2 := hw2 ▸ (Ext.refl w1).alloc _
  rw [hg, hw2] at hrow
  rw [hg, hw2]
  clear hg hw2 hmk b0 b1 b2
  go_loopw [27] (fun i wr => ∃ (k : Nat) (l : List Int), i = .int .i64 k ∧ k ≤ m ∧ Hid (l.length = m) ∧ Hid (∀ j, l.getD j 0 = if j < k then F j else 0) ∧ Hid (WRow wr g 0 l) ∧ Ext w1 wr) (fun i _ => m - (intOf i).toNat)
  case atStart => exact ⟨0, _, rfl, Nat.zero_le _, hrl, hid (fun j => by rw [replicate_get]; simp), hrow, hx2⟩
  case round =>
    obtain ⟨k, l, rfl, hk, hln, hl2, Hrw, hxw⟩ := hrel
    clear hx2
    obtain ⟨b0, b1, b2⟩ := hbox.out wr (x1.trans hxw)
    by_cases hlt : k < m
    · have hck := hcap.out k hlt
      have hfk := HF.out k
      obtain ⟨z, hz⟩ : ∃ z, F k = z := ⟨_, rfl⟩
      rw [hz] at hfk
      have hdot := hid ((dot_piece (p := p) (Ok.out.at_ hlt) Hyl.out).trans hfk)
      have Hz := hid hz
      clear hz hfk
      go_wp2_with fail
      refine (mxRow (m : Int) (n : Int) n k b off xs.length cap wr rfl hn (by omega) hck k2).mono ?_
      rintro _ w3 ⟨rfl, x3⟩
      go_wp2_with fail
      refine (dot_as p z _ u (piece xs k n) ys w3 ((Hv.out.ext ((hx0.trans x1).trans (hxw.trans x3))).sub (k * n) n (Ok.out.at_ hlt) hn.1) (Hu.out.ext ((hx0.trans x1).trans (hxw.trans x3))) ((piece_rng Ok.out.hx k n).u64 hp2.2) (Hy.out.u64 hp2.2) (by rw [piece_len (Ok.out.at_ hlt), Hyl.out]) ((piece_rng Ok.out.hx k n).has Ok.out.hp) (Hy.out.has Ok.out.hp) hdot.out).mono ?_
      rintro _ w4 ⟨rfl, x4⟩
      have g2 := ((Hrw.out.ext (x3.trans x4)).2 k (by rw [hln.out]; omega)).1
      have f2 := ((Hrw.out.ext (x3.trans x4)).2 k (by rw [hln.out]; omega)).2
      rw [Nat.zero_add] at g2 f2
      go_wp2_with fail
      go_roundw
      case rel =>
        have hs := (Hrw.out.ext (x3.trans x4)).set_ (i := k) (by rw [hln.out]; omega) z
        rw [Nat.zero_add] at hs
        refine ⟨k + 1, l.set k z, by go_num, by omega, hid (by rw [List.length_set]; exact hln.out), hid (fun j => ?_), hid hs, (hxw.trans (x3.trans x4)).setCell (p := ⟨g, k, none⟩) hgw _⟩
        rw [set_get l k j z (by rw [hln.out]; omega), hl2.out]
        by_cases e : k = j
        · subst e
          rw [if_pos rfl, if_pos (by omega), Hz.out]
        · rw [if_neg e]
          by_cases e2 : j < k
          · rw [if_pos e2, if_pos (by omega)]
          · rw [if_neg e2, if_neg (by omega)]
      case measure => simp [intOf]; omega
    · obtain rfl : m = k := by omega
      go_wp2_with fail
      go_ret2
      have e : l = tab m F := tab_of hln.out fun j hj => by rw [hl2.out, if_pos hj]
      exact ⟨_, rfl, e ▸ Hrw.out.ints' hln.out (Nat.le_refl _) (by omega), hx0.trans (x1.trans hxw)⟩
end Go.Proofs.YthomeenmcajmdaaGreatDoor
