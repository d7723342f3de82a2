import Derived.Test.YthomeenmcajmdaaGreatDoorBun19
import Derived.Test.YthomeenmcajmdaaGreatDoorBun21
import Derived.Test.YthomeenmcajmdaaGreatDoorBun09
import Derived.Test.YthomeenmcajmdaaGreatDoorBun18
import Derived.Test.YthomeenmcajmdaaGreatDoorBun15
import Derived.Test.YthomeenmcajmdaaGreatDoorFldP
import Derived.Test.YthomeenmcajmdaaGreatDoorBun06
import Derived.Test.YthomeenmcajmdaaGreatDoorBun20
import Derived.RangeFuncFrom
import Derived.Test.YthomeenmcajmdaaGreatDoorBun04
import Derived.Lib.AppendZeros
import Derived.Lib.AppendZerosOnto
import Derived.Test.YthomeenmcajmdaaGreatDoorBun02
import Derived.RangeFuncBox
import Derived.RangeFuncLeaves
import Derived.Shelf.Abstract
import Derived.WalkKit
import Derived.OwnWalkIn
import Derived.TacticsInMore
import Derived.LoopNIn
import Derived.LoopIn
import Derived.Test.YthomeenmcajmdaaGreatDoorRows
import Derived.Test.YthomeenmcajmdaaGreatDoorBun05
import Derived.Deep.RegionHeld3
import Derived.OrdersIn
import Derived.RangeFuncCalls
import Derived.TacticsIn
import Derived.Lib.SmallJoins
import Derived.Deep.Fields
import Derived.Deep.Slices
import Derived.Test.YthomeenmcajmdaaGreatDoorCards
import Derived.Test.YthomeenmcajmdaaGreatDoorTie
import Derived.Test.YthomeenmcajmdaaGreatDoorMiller
import Derived.ChangeSame
import Derived.Deep.DeepHandedRow
import Derived.Lib.LaidTab
namespace Go.Proofs.YthomeenmcajmdaaGreatDoor
variable {p : Int} {n : Nat} {xs : List Int}
def powL (p : Int) (n : Nat) (xs : List Int) : Nat → List Int → List Int
  | 0, v => v
  | k + 1, v => timesL p n n xs (powL p n xs k v)
theorem powL_len {v : List Int} (hv : v.length = n) : ∀ k, (powL p n xs k v).length = n
  | 0 => hv
  | _ + 1 => timesL_len _ _ _ _
theorem powL_rng (hp : 2 ≤ p) {v : List Int} (hv : Rng p v) : ∀ k, Rng p (powL p n xs k v)
  | 0 => hv
  | _ + 1 => timesL_rng hp _ _ _ _
theorem times_at {x : List Int} {i : Nat} (hi : i < n) : (timesL p n n xs x).getD i 0 = mapF n (atF n xs) (atV x) i % p := by
  unfold timesL
  rw [tab_get _ hi]; rfl
theorem powL_mod {v : List Int} : ∀ k, Eqv p n (atV (powL p n xs k v)) (itF n (atF n xs) k (atV v))
  | 0 => Eqv.refl _
  | k + 1 => fun i hi => by
    show (timesL p n n xs (powL p n xs k v)).getD i 0 % p = mapF n (atF n xs) (itF n (atF n xs) k (atV v)) i % p
    rw [times_at hi, Int.emod_emod]
    exact map_mod (powL_mod k) i
theorem powL_get (hp : 2 ≤ p) {v : List Int} (hv : Rng p v) {k i : Nat} (hi : i < n) : (powL p n xs k v).getD i 0 = itF n (atF n xs) k (atV v) i % p := by
  have h := powL_mod (p := p) (xs := xs) (v := v) k i hi
  rw [← h]
  have hr := (powL_rng (n := n) (xs := xs) hp hv k).getD hp i
  exact (mod_small hr.1 hr.2).symm
theorem doF_pol (f : List Int) (A : Nat → RowF) (v : RowF) : Eqv p n (doF n A f.length (pol p f).co v) (doF n A f.length (fun k => f.getD k 0) v) :=
  do_mod (Eqv.refl v) fun k _ => by rw [pol_co, Int.emod_emod]
theorem doF_horner (A : Nat → RowF) (d : Nat) (f : Nat → Int) (v : RowF) (k : Nat) : doF n A (d + 1) (fun j => f (k + j)) v = fun i => f k * v i + mapF n A (doF n A d (fun j => f (k + 1 + j)) v) i := by
  funext i
  unfold doF
  rw [sm_head, map_sum]
  show f (k + 0) * v i + _ = _
  refine congrArg _ (sm_congr fun j _ => ?_)
  show f (k + (j + 1)) * _ = _
  rw [show k + (j + 1) = k + 1 + j by omega]
  rfl
def OwnL (p : Int) (n : Nat) (xs v g : List Int) : Prop := IsOwn p n (atF n xs) (fun u => u = atV v) g
def MinL (p : Int) (n : Nat) (xs h : List Int) : Prop := IsMin p n (atF n xs) h
def unitL (n i : Nat) : List Int := tab n fun k => if k = i then 1 else 0
theorem unitL_at {i : Nat} : Eqv p n (atV (unitL n i)) (uniF i) := fun j hj => by
  unfold atV unitL uniF
  rw [tab_get _ hj]
theorem OwnL.any (hp : HasInv p) (n : Nat) (xs v : List Int) : ∃ g, OwnL p n xs v g := IsOwn.any hp _
theorem MinL.any (hp : HasInv p) (n : Nat) (xs : List Int) : ∃ h, MinL p n xs h := IsOwn.any hp _
theorem OwnL.unit {i : Nat} {g : List Int} (h : OwnL p n xs (unitL n i) g) : IsOwn p n (atF n xs) (fun u => u = uniF i) g :=
  ⟨h.isp, h.ne, h.mon, fun v hv => by
    have := h.kil _ rfl
    rw [hv]; exact this.congr unitL_at.symm, fun f hf hk => h.dvd f hf fun v hv => by
    rw [hv]; exact (hk _ rfl).congr unitL_at⟩
end Go.Proofs.YthomeenmcajmdaaGreatDoor
namespace Go.Proofs.YthomeenmcajmdaaGreatDoor
open Go.RowKit Go.Maps
theorem shows_fld {l : List Prf} {p : Int} (hl : ∀ f ∈ l, f.Ok) (h : showsB l p = true) : Fld p := by
  rw [showsB, Bool.and_eq_true, decide_eq_true_eq, knownB, decide_eq_true_eq] at h
  obtain ⟨h1, h2⟩ := h
  rcases h2 with rfl | h2
  · exact fld_is ⟨by omega, fun c h1 h2 => by have := Int.mul_le_mul h1 h1 (by omega) (by omega); omega⟩
  · obtain ⟨f, hf, rfl⟩ := List.mem_map.1 h2
    obtain ⟨j, hj, rfl⟩ := List.mem_iff_getElem.1 hf
    have := shown_root hl (firstD_all h1) (j + 1) j (by omega) hj
    have e : l.getD j .zero = l[j] := by simp [List.getD, List.getElem?_eq_getElem hj]
    rw [e] at this
    exact fld_is (root_isP (by omega) this.2.prm)
theorem task_ok {T : Tsk} (hz : TkZ T) (h : taskB T = true) : ∃ m n : Nat, T.r = m ∧ T.c = n ∧ MatOk T.p m n T.xs ∧ Fld T.p := by
  simp only [taskB, Bool.and_eq_true] at h
  obtain ⟨h1, -, -, h4⟩ := h
  have hb := (matB_iff hz.x).1 h1
  obtain ⟨h2, h3, m, n, e1, e2, m1, m2, n1, n2, hl⟩ := hb
  exact ⟨m, n, e1, e2, ⟨h2, h3, ⟨m1, m2⟩, ⟨n1, n2⟩, hl⟩, shows_fld hz.l h4⟩
noncomputable def minP (p : Int) (n : Nat) (xs : List Int) : List Int := @dite _ (∃ h, MinL p n xs h) (Classical.propDecidable _) Classical.choose (fun _ => [])
theorem minP_is {p : Int} (hp : HasInv p) {n : Nat} {xs : List Int} : MinL p n xs (minP p n xs) := by
  have h := MinL.any hp n xs
  unfold minP
  rw [dif_pos h]
  exact Classical.choose_spec h
open Classical in
noncomputable def solvB (p : Int) (m n : Nat) (xs b : List Int) : Bool := decide (∃ x, IsX p m n xs b x)
theorem solvB_iff {p : Int} {m n : Nat} {xs b : List Int} : solvB p m n xs b = true ↔ ∃ x, IsX p m n xs b x := by simp [solvB]
def bitZ (b : Bool) : Int := if b = true then 1 else 0
noncomputable def ansT (T : Tsk) : List Int :=
  if T.k = 1 then mulL T.p T.r.toNat T.c.toNat T.c2.toNat T.xs T.ys
  else if T.k = 2 then [bitZ (detF T.r.toNat (atF T.r.toNat T.xs) % T.p == 0)]
  else if T.k = 3 then [((takeL T.p T.r.toNat T.c.toNat T.xs).U.length : Int)]
  else if T.k = 4 then profZ T.p T.r.toNat T.c.toNat T.xs
  else if T.k = 5 then [detF T.r.toNat (atF T.r.toNat T.xs) % T.p]
  else if T.k = 6 then minP T.p T.r.toNat T.xs
  else [bitZ (solvB T.p T.r.toNat T.c.toNat T.xs T.bs)]
end Go.Proofs.YthomeenmcajmdaaGreatDoor
namespace Go.Proofs.YthomeenmcajmdaaGreatDoor
open Go.RowKit Go.Maps
theorem own_slice {w : World} {base n : Nat} {e : TypeId} {v : Value} {xs : List Value} (h : w.ownsRow base e 1 v n xs) : ∃ a cap, v = .slice a n cap ∧ xs.length = n ∧ n ≤ cap ∧ cap ≤ 9223372036854775807 ∧
    (0 < n → ∃ g, a = some ⟨g, 0, none⟩ ∧ base ≤ g ∧ g < w.heap.size ∧ ∀ j, j < n → w.cell? ⟨g, j, none⟩ = some (xs.getD j undef)) := by
  have hl : xs.length = n := by have := h.1; simpa using this
  have h0 := h
  obtain ⟨_, ⟨rfl, h1⟩ | ⟨g, cap, cur, rfl, hg, hb, hc1, hc2, hs, ht⟩⟩ := h
  · obtain rfl : n = 0 := by simpa using h1
    exact ⟨none, 0, rfl, hl, Nat.le_refl _, by omega, fun h => by omega⟩
  · refine ⟨_, cap, rfl, hl, hc1, by unfold maxLen at hc2; omega, fun _ => ⟨g, rfl, hg, Blk.lt (t := e) (cs := cur) hb, fun j hj => ?_⟩⟩
    rw [h0.cellAt j (by omega)]
    simp [hl, hj, List.getD]
theorem info_rows : (Tryz.prog.info? 24).map (fun i => (i.zero, i.size, i.bytes)) = some (some (.slice none 0 0), 1, 24) := by kernel_rfl
theorem grown_new {a b c : World} {row row2 : Option Nat} (h : a.grownBy b row) (k : b.grownBy c row2) (hn : ∀ q, row2 = some q → a.heap.size ≤ q) : a.grownBy c row :=
  ⟨k.os.trans h.os, k.tape.trans h.tape, k.output.trans h.output, Nat.le_trans h.size k.size, fun q hq hne => (k.block q (Nat.lt_of_lt_of_le hq h.size) (fun e => by have := hn q e.symm; omega)).trans (h.block q hq hne)⟩
theorem grown_ext {w a b : World} {g : Nat} (h : a.grownBy b (some g)) (x : Ext w a) (hg : w.heap.size ≤ g) : Ext w b := x.grown h fun k e => by injection e with e; omega
theorem ko_ext {w w1 : World} (x : Ext w w1) : KeepsOthers w w1 := KeepsOthers.of_grownBy (x.grownBy none) (fun _ _ e => by cases e)
theorem ko_grown {w w1 : World} {base n : Nat} {e : TypeId} {v : Value} {xs : List Value} (h : w.ownsRow base e 1 v n xs) (hg : w.grownBy w1 v.ownBlock) : KeepsOthers w w1 :=
  KeepsOthers.of_grownBy hg fun j o he ho => by
    rcases h.2 with ⟨rfl, _⟩ | ⟨g, cap, cur, rfl, _, hb, _⟩
    · cases he
    · have he : g = j := by injection he
      rw [← he, hb] at ho
      cases ho; rfl
theorem own_kept {w w' : World} {base n : Nat} {e : TypeId} {v : Value} {xs : List Value} {row : Option Nat} (h : w.ownsRow base e 1 v n xs) (hg : w.grownBy w' row) (hr : ∀ r, row = some r → ∃ o : Obj, w.heap[r]? = some o ∧ o.isCells = false) : w'.ownsRow base e 1 v n xs := by
  refine h.kept hg ?_
  rcases h.2 with ⟨rfl, _⟩ | ⟨g, cap, cur, rfl, _, hb, _⟩
  · exact .inl rfl
  · refine .inr fun e => ?_
    obtain ⟨o, ho, hc⟩ := hr g e.symm
    rw [hb] at ho; cases ho; cases hc
structure Tk (w0 wK w : World) (g : Nat) (p : Int) (R K I : List Int) (C U : List (List Int)) (rv cv Cv Uv iv : Value) (cs us : List Value) : Prop where
  box : Blk w g 108 #[rv, cv, Cv, Uv, .int .u64 p, iv]
  rows : w.ownsRow w0.heap.size 3 1 rv R.length (R.map (Value.int .i64))
  cols : w.ownsRow w0.heap.size 3 1 cv K.length (K.map (Value.int .i64))
  cc : w.ownsRow w0.heap.size 24 1 Cv C.length cs
  uu : w.ownsRow w0.heap.size 24 1 Uv U.length us
  inv : w.ownsRow w0.heap.size 22 1 iv I.length (I.map (Value.int .u64))
  crow : ∀ j, j < C.length → w.ownsRow w0.heap.size 22 1 (cs.getD j undef) (C.getD j []).length ((C.getD j []).map (Value.int .u64))
  urow : ∀ j, j < U.length → w.ownsRow w0.heap.size 22 1 (us.getD j undef) (U.getD j []).length ((U.getD j []).map (Value.int .u64))
  a1 : Ap rv cv
  a2 : Ap Cv Uv
  a3 : ∀ j, j < C.length → Ap (cs.getD j undef) iv
  a4 : ∀ j, j < U.length → Ap (us.getD j undef) iv
  a5 : ∀ j k, j < C.length → k < C.length → j ≠ k → Ap (cs.getD j undef) (cs.getD k undef)
  a6 : ∀ j k, j < C.length → k < U.length → Ap (cs.getD j undef) (us.getD k undef)
  ext : w0.grownBy w (some g)
  ko : KeepsOthers wK w
section
variable {w0 wK w w1 : World} {g : Nat} {p : Int} {R K I : List Int} {C U : List (List Int)} {rv cv Cv Uv iv : Value} {cs us : List Value}
theorem Tk.lc (T : Tk w0 wK w g p R K I C U rv cv Cv Uv iv cs us) : cs.length = C.length := by have := T.cc.1; simpa using this
theorem Tk.lu (T : Tk w0 wK w g p R K I C U rv cv Cv Uv iv cs us) : us.length = U.length := by have := T.uu.1; simpa using this
theorem Tk.ext' (T : Tk w0 wK w g p R K I C U rv cv Cv Uv iv cs us) (x : Ext w w1) : Tk w0 wK w1 g p R K I C U rv cv Cv Uv iv cs us :=
  ⟨T.box.ext x, ownsRow_ext T.rows x, ownsRow_ext T.cols x, ownsRow_ext T.cc x, ownsRow_ext T.uu x, ownsRow_ext T.inv x, fun j hj => ownsRow_ext (T.crow j hj) x, fun j hj => ownsRow_ext (T.urow j hj) x, T.a1, T.a2, T.a3, T.a4, T.a5, T.a6, T.ext.trans (x.grownBy _), T.ko.trans (ko_ext x)⟩
theorem Tk.at6 (T : Tk w0 wK w g p R K I C U rv cv Cv Uv iv cs us) : w.cell? ⟨g, 0, none⟩ = some rv ∧ w.cell? ⟨g, 1, none⟩ = some cv ∧ w.cell? ⟨g, 2, none⟩ = some Cv ∧ w.cell? ⟨g, 3, none⟩ = some Uv ∧ w.cell? ⟨g, 4, none⟩ = some (.int .u64 p) ∧ w.cell? ⟨g, 5, none⟩ = some iv :=
  ⟨T.box.cell 0, T.box.cell 1, T.box.cell 2, T.box.cell 3, T.box.cell 4, T.box.cell 5⟩
theorem Tk.box' (T : Tk w0 wK w g p R K I C U rv cv Cv Uv iv cs us) {b n : Nat} {e : TypeId} {v : Value} {xs : List Value} (h : w.ownsRow b e 1 v n xs) (he : e ≠ 108) (hg : w.grownBy w1 v.ownBlock) : Blk w1 g 108 #[rv, cv, Cv, Uv, .int .u64 p, iv] :=
  T.box.grown hg (by
    rcases ownsRow_blk h T.box he with e | e
    · rw [e]; simp
    · exact e)
theorem Blk.at6 {w : World} {g : Nat} {t : TypeId} {a b c d e f : Value} (h : Blk w g t #[a, b, c, d, e, f]) : w.cell? ⟨g, 0, none⟩ = some a ∧ w.cell? ⟨g, 1, none⟩ = some b ∧ w.cell? ⟨g, 2, none⟩ = some c ∧ w.cell? ⟨g, 3, none⟩ = some d ∧ w.cell? ⟨g, 4, none⟩ = some e ∧ w.cell? ⟨g, 5, none⟩ = some f :=
  ⟨h.cell 0, h.cell 1, h.cell 2, h.cell 3, h.cell 4, h.cell 5⟩
theorem Tk.addR (T : Tk w0 wK w g p R K I C U rv cv Cv Uv iv cs us) {v' : Value} {x : Int} (hown : w1.ownsRow w0.heap.size 3 1 v' (R.length + 1) (R.map (Value.int .i64) ++ [.int .i64 x])) (hg : w.grownBy w1 rv.ownBlock) (hat : v'.ownBlock = rv.ownBlock ∨ v'.ownBlock = some w.heap.size) :
    Tk w0 wK (w1.setCell ⟨g, 0, none⟩ v') g p (R ++ [x]) K I C U v' cv Cv Uv iv cs us := by
  have B := T.box' T.rows (by decide) hg
  refine ⟨B.set_ 0 v', own_put (by rw [List.length_append, List.map_append]; exact hown) B (by decide) _ _, own_put (T.cols.kept hg T.a1.symm) B (by decide) _ _, own_put (T.cc.kept hg (ownsRow_apart T.cc T.rows (by decide))) B (by decide) _ _, own_put (T.uu.kept hg (ownsRow_apart T.uu T.rows (by decide))) B (by decide) _ _,
    own_put (T.inv.kept hg (ownsRow_apart T.inv T.rows (by decide))) B (by decide) _ _, fun j hj => own_put ((T.crow j hj).kept hg (ownsRow_apart (T.crow j hj) T.rows (by decide))) B (by decide) _ _, fun j hj => own_put ((T.urow j hj).kept hg (ownsRow_apart (T.urow j hj) T.rows (by decide))) B (by decide) _ _,
    (T.a1.symm.grown T.cols hat).symm, T.a2, T.a3, T.a4, T.a5, T.a6, (grown_new T.ext hg fun k e => (T.rows.lt k e).1).trans (setCell_grown _ _ _), (T.ko.trans (ko_grown T.rows hg)).trans (KeepsOthers.setCell _ _ _)⟩
theorem Tk.addK (T : Tk w0 wK w g p R K I C U rv cv Cv Uv iv cs us) {v' : Value} {x : Int} (hown : w1.ownsRow w0.heap.size 3 1 v' (K.length + 1) (K.map (Value.int .i64) ++ [.int .i64 x])) (hg : w.grownBy w1 cv.ownBlock) (hat : v'.ownBlock = cv.ownBlock ∨ v'.ownBlock = some w.heap.size) :
    Tk w0 wK (w1.setCell ⟨g, 1, none⟩ v') g p R (K ++ [x]) I C U rv v' Cv Uv iv cs us := by
  have B := T.box' T.cols (by decide) hg
  refine ⟨B.set_ 1 v', own_put (T.rows.kept hg T.a1) B (by decide) _ _, own_put (by rw [List.length_append, List.map_append]; exact hown) B (by decide) _ _, own_put (T.cc.kept hg (ownsRow_apart T.cc T.cols (by decide))) B (by decide) _ _, own_put (T.uu.kept hg (ownsRow_apart T.uu T.cols (by decide))) B (by decide) _ _,
    own_put (T.inv.kept hg (ownsRow_apart T.inv T.cols (by decide))) B (by decide) _ _, fun j hj => own_put ((T.crow j hj).kept hg (ownsRow_apart (T.crow j hj) T.cols (by decide))) B (by decide) _ _, fun j hj => own_put ((T.urow j hj).kept hg (ownsRow_apart (T.urow j hj) T.cols (by decide))) B (by decide) _ _,
    T.a1.grown T.rows hat, T.a2, T.a3, T.a4, T.a5, T.a6, (grown_new T.ext hg fun k e => (T.cols.lt k e).1).trans (setCell_grown _ _ _), (T.ko.trans (ko_grown T.cols hg)).trans (KeepsOthers.setCell _ _ _)⟩
theorem Tk.addI (T : Tk w0 wK w g p R K I C U rv cv Cv Uv iv cs us) {v' : Value} {x : Int} (hown : w1.ownsRow w0.heap.size 22 1 v' (I.length + 1) (I.map (Value.int .u64) ++ [.int .u64 x])) (hg : w.grownBy w1 iv.ownBlock) (hat : v'.ownBlock = iv.ownBlock ∨ v'.ownBlock = some w.heap.size) :
    Tk w0 wK (w1.setCell ⟨g, 5, none⟩ v') g p R K (I ++ [x]) C U rv cv Cv Uv v' cs us := by
  have B := T.box' T.inv (by decide) hg
  refine ⟨B.set_ 5 v', own_put (T.rows.kept hg (ownsRow_apart T.rows T.inv (by decide))) B (by decide) _ _, own_put (T.cols.kept hg (ownsRow_apart T.cols T.inv (by decide))) B (by decide) _ _, own_put (T.cc.kept hg (ownsRow_apart T.cc T.inv (by decide))) B (by decide) _ _, own_put (T.uu.kept hg (ownsRow_apart T.uu T.inv (by decide))) B (by decide) _ _,
    own_put (by rw [List.length_append, List.map_append]; exact hown) B (by decide) _ _, fun j hj => own_put ((T.crow j hj).kept hg (T.a3 j hj)) B (by decide) _ _, fun j hj => own_put ((T.urow j hj).kept hg (T.a4 j hj)) B (by decide) _ _,
    T.a1, T.a2, fun j hj => (T.a3 j hj).grown (T.crow j hj) hat, fun j hj => (T.a4 j hj).grown (T.urow j hj) hat, T.a5, T.a6, (grown_new T.ext hg fun k e => (T.inv.lt k e).1).trans (setCell_grown _ _ _), (T.ko.trans (ko_grown T.inv hg)).trans (KeepsOthers.setCell _ _ _)⟩
theorem Tk.addU (T : Tk w0 wK w g p R K I C U rv cv Cv Uv iv cs us) {v' u : Value} {l : List Int} (hown : w1.ownsRow w0.heap.size 24 1 v' (U.length + 1) (us ++ [u])) (hg : w.grownBy w1 Uv.ownBlock) (hat : v'.ownBlock = Uv.ownBlock ∨ v'.ownBlock = some w.heap.size)
    (hu : w.ownsRow w0.heap.size 22 1 u l.length (l.map (Value.int .u64))) (hi : Ap u iv) (hc : ∀ j, j < C.length → Ap (cs.getD j undef) u) :
    Tk w0 wK (w1.setCell ⟨g, 3, none⟩ v') g p R K I C (U ++ [l]) rv cv Cv v' iv cs (us ++ [u]) := by
  have B := T.box' T.uu (by decide) hg
  have hlu := T.lu
  refine ⟨B.set_ 3 v', own_put (T.rows.kept hg (ownsRow_apart T.rows T.uu (by decide))) B (by decide) _ _, own_put (T.cols.kept hg (ownsRow_apart T.cols T.uu (by decide))) B (by decide) _ _, own_put (T.cc.kept hg T.a2) B (by decide) _ _, own_put (by rw [List.length_append]; exact hown) B (by decide) _ _,
    own_put (T.inv.kept hg (ownsRow_apart T.inv T.uu (by decide))) B (by decide) _ _, fun j hj => own_put ((T.crow j hj).kept hg (ownsRow_apart (T.crow j hj) T.uu (by decide))) B (by decide) _ _, fun j hj => ?_,
    T.a1, T.a2.grown T.cc hat, T.a3, fun j hj => ?_, T.a5, fun j k hj hk => ?_, (grown_new T.ext hg fun k e => (T.uu.lt k e).1).trans (setCell_grown _ _ _), (T.ko.trans (ko_grown T.uu hg)).trans (KeepsOthers.setCell _ _ _)⟩
  · rw [List.length_append, List.length_cons, List.length_nil] at hj
    rw [getD_snoc, getD_snoc]
    by_cases e : j < U.length
    · rw [if_pos (by omega), if_pos e]
      exact own_put ((T.urow j e).kept hg (ownsRow_apart (T.urow j e) T.uu (by decide))) B (by decide) _ _
    · rw [if_neg (by omega), if_neg e, if_pos (by omega), if_pos (by omega)]
      exact own_put (hu.kept hg (ownsRow_apart hu T.uu (by decide))) B (by decide) _ _
  · rw [List.length_append, List.length_cons, List.length_nil] at hj
    rw [getD_snoc]
    by_cases e : j < U.length
    · rw [if_pos (by omega)]; exact T.a4 j e
    · rw [if_neg (by omega), if_pos (by omega)]; exact hi
  · rw [List.length_append, List.length_cons, List.length_nil] at hk
    rw [getD_snoc]
    by_cases e : k < U.length
    · rw [if_pos (by omega)]; exact T.a6 j k hj e
    · rw [if_neg (by omega), if_pos (by omega)]; exact hc j hj
theorem Tk.addC (T : Tk w0 wK w g p R K I C U rv cv Cv Uv iv cs us) {v' u : Value} {l : List Int} (hown : w1.ownsRow w0.heap.size 24 1 v' (C.length + 1) (cs ++ [u])) (hg : w.grownBy w1 Cv.ownBlock) (hat : v'.ownBlock = Cv.ownBlock ∨ v'.ownBlock = some w.heap.size)
    (hu : w.ownsRow w0.heap.size 22 1 u l.length (l.map (Value.int .u64))) (hi : Ap u iv) (hc : ∀ j, j < C.length → Ap (cs.getD j undef) u) (hU : ∀ j, j < U.length → Ap u (us.getD j undef)) :
    Tk w0 wK (w1.setCell ⟨g, 2, none⟩ v') g p R K I (C ++ [l]) U rv cv v' Uv iv (cs ++ [u]) us := by
  have B := T.box' T.cc (by decide) hg
  have hlc := T.lc
  refine ⟨B.set_ 2 v', own_put (T.rows.kept hg (ownsRow_apart T.rows T.cc (by decide))) B (by decide) _ _, own_put (T.cols.kept hg (ownsRow_apart T.cols T.cc (by decide))) B (by decide) _ _, own_put (by rw [List.length_append]; exact hown) B (by decide) _ _, own_put (T.uu.kept hg T.a2.symm) B (by decide) _ _,
    own_put (T.inv.kept hg (ownsRow_apart T.inv T.cc (by decide))) B (by decide) _ _, fun j hj => ?_, fun j hj => own_put ((T.urow j hj).kept hg (ownsRow_apart (T.urow j hj) T.cc (by decide))) B (by decide) _ _,
    T.a1, (T.a2.symm.grown T.uu hat).symm, fun j hj => ?_, T.a4, fun j k hj hk hjk => ?_, fun j k hj hk => ?_, (grown_new T.ext hg fun k e => (T.cc.lt k e).1).trans (setCell_grown _ _ _), (T.ko.trans (ko_grown T.cc hg)).trans (KeepsOthers.setCell _ _ _)⟩
  · rw [List.length_append, List.length_cons, List.length_nil] at hj
    rw [getD_snoc, getD_snoc]
    by_cases e : j < C.length
    · rw [if_pos (by omega), if_pos e]
      exact own_put ((T.crow j e).kept hg (ownsRow_apart (T.crow j e) T.cc (by decide))) B (by decide) _ _
    · rw [if_neg (by omega), if_neg e, if_pos (by omega), if_pos (by omega)]
      exact own_put (hu.kept hg (ownsRow_apart hu T.cc (by decide))) B (by decide) _ _
  · rw [List.length_append, List.length_cons, List.length_nil] at hj
    rw [getD_snoc]
    by_cases e : j < C.length
    · rw [if_pos (by omega)]; exact T.a3 j e
    · rw [if_neg (by omega), if_pos (by omega)]; exact hi
  · rw [List.length_append, List.length_cons, List.length_nil] at hj hk
    rw [getD_snoc, getD_snoc]
    by_cases e : j < C.length
    · rw [if_pos (by omega)]
      by_cases e2 : k < C.length
      · rw [if_pos (by omega)]; exact T.a5 j k e e2 hjk
      · rw [if_neg (by omega), if_pos (by omega)]; exact hc j e
    · rw [if_neg (by omega), if_pos (by omega), if_pos (by omega)]
      exact (hc k (by omega)).symm
  · rw [List.length_append, List.length_cons, List.length_nil] at hj
    rw [getD_snoc]
    by_cases e : j < C.length
    · rw [if_pos (by omega)]; exact T.a6 j k e hk
    · rw [if_neg (by omega), if_pos (by omega)]; exact hU k hk
end
theorem Tk.own {w0 wK w w1 : World} {g : Nat} {p : Int} {R K I : List Int} {C U : List (List Int)} {rv cv Cv Uv iv : Value} {cs us : List Value} (T : Tk w0 wK w g p R K I C U rv cv Cv Uv iv cs us) {row : Option Nat} (hg : w.grownBy w1 row) (hr : ∀ r, row = some r → w0.heap.size ≤ r ∧ ∃ o : Obj, w.heap[r]? = some o ∧ o.isCells = false) {wL : World} (hk : KeepsOthers wL w1) :
    Tk w0 wL w1 g p R K I C U rv cv Cv Uv iv cs us :=
  have hr' := fun r e => (hr r e).2
  ⟨T.box.grown hg (fun e => by
    obtain ⟨o, ho, hc⟩ := hr' g e
    rw [show w.heap[g]? = _ from T.box] at ho; cases ho; cases hc), own_kept T.rows hg hr', own_kept T.cols hg hr', own_kept T.cc hg hr', own_kept T.uu hg hr', own_kept T.inv hg hr', fun j hj => own_kept (T.crow j hj) hg hr', fun j hj => own_kept (T.urow j hj) hg hr',
    T.a1, T.a2, T.a3, T.a4, T.a5, T.a6, grown_new T.ext hg fun q e => (hr q e).1, hk⟩
noncomputable def invsL (p : Int) (st : ElE) : List Int := tab st.U.length fun k => minv p ((st.U.getD k []).getD (st.cols.getD k 0) 0)
def rowsZ (st : ElE) : List Int := st.rows.map fun k : Nat => (k : Int)
def TkS (w0 wK w : World) (g : Nat) (p : Int) (st : ElE) : Prop := ∃ rv cv Cv Uv iv cs us, Tk w0 wK w g p (rowsZ st) (colsZ st) (invsL p st) st.C st.U rv cv Cv Uv iv cs us
theorem TkS.ext' {w0 wK w w1 : World} {g : Nat} {p : Int} {st : ElE} (h : TkS w0 wK w g p st) (x : Ext w w1) : TkS w0 wK w1 g p st := by
  obtain ⟨rv, cv, Cv, Uv, iv, cs, us, T⟩ := h
  exact ⟨rv, cv, Cv, Uv, iv, cs, us, T.ext' x⟩
theorem Tk.keep {w0 wK w w1 : World} {g : Nat} {p : Int} {R K I : List Int} {C U : List (List Int)} {rv cv Cv Uv iv : Value} {cs us : List Value} (T : Tk w0 wK w g p R K I C U rv cv Cv Uv iv cs us) {b n : Nat} {v : Value} {xs : List Value} (h : w.ownsRow b 22 1 v n xs) (hb : w0.heap.size ≤ b) (hg : w.grownBy w1 v.ownBlock)
    (hi : Ap iv v) (hc : ∀ j, j < C.length → Ap (cs.getD j undef) v) (hu : ∀ j, j < U.length → Ap (us.getD j undef) v) : Tk w0 wK w1 g p R K I C U rv cv Cv Uv iv cs us :=
  ⟨T.box' h (by decide) hg, T.rows.kept hg (ownsRow_apart T.rows h (by decide)), T.cols.kept hg (ownsRow_apart T.cols h (by decide)), T.cc.kept hg (ownsRow_apart T.cc h (by decide)), T.uu.kept hg (ownsRow_apart T.uu h (by decide)), T.inv.kept hg hi, fun j hj => (T.crow j hj).kept hg (hc j hj), fun j hj => (T.urow j hj).kept hg (hu j hj),
    T.a1, T.a2, T.a3, T.a4, T.a5, T.a6, grown_new T.ext hg fun k e => Nat.le_trans hb (h.lt k e).1, T.ko.trans (ko_grown h hg)⟩
theorem getD_out {α : Type} {l : List α} {d : α} {j : Nat} (h : j < l.length) (x : α) : (l ++ [x]).getD j d = l.getD j d := by rw [getD_snoc, if_pos h]
theorem invsL_snoc {p : Int} {n i : Nat} {Rf : Nat → List Int} {st : ElE} (ok : ElOk p n Rf i st) (C : List (List Int)) (R : List Nat) (L : Nat) (l : List Int) : invsL p ⟨C, R, st.cols ++ [L], st.U ++ [l]⟩ = invsL p st ++ [minv p (l.getD L 0)] := by
  have hk := ok.lk
  unfold invsL
  rw [List.length_append, List.length_cons, List.length_nil, Nat.zero_add, tab_succ]
  congr 1
  · exact tab_congr fun j hj => by rw [getD_out hj, getD_out (show j < st.cols.length by omega)]
  · rw [getD_snoc, if_neg (by omega), if_pos rfl, getD_snoc, if_neg (by omega), if_pos hk.symm]
theorem rowsZ_snoc (st : ElE) (C : List (List Int)) (K : List Nat) (U : List (List Int)) (i : Nat) : rowsZ ⟨C, st.rows ++ [i], K, U⟩ = rowsZ st ++ [(i : Int)] := by simp [rowsZ]
theorem colsZ_snoc (st : ElE) (C : List (List Int)) (R : List Nat) (U : List (List Int)) (i : Nat) : colsZ ⟨C, R, st.cols ++ [i], U⟩ = colsZ st ++ [(i : Int)] := by simp [colsZ]
end Go.Proofs.YthomeenmcajmdaaGreatDoor
namespace Go.Proofs.YthomeenmcajmdaaGreatDoor
open Go.RowKit Go.Maps
theorem zeroCells_one (z : Value) (n : Nat) : Builtin.zeroCells #[z] n = (List.replicate n z).toArray := by
  apply Array.ext'
  apply List.ext_getElem?
  intro j
  by_cases hj : j < n
  · simp [Builtin.zeroCells, hj, Nat.mod_one]
  · simp [Builtin.zeroCells, hj]
section
variable {P : Program} (w : World)
theorem run_append_zeros (base : Nat) (t tn ty e : TypeId) (i : TypeInfo) (kq kn : IntKind) (ht : P.underlying t = some (.slice e)) (htn : P.underlying tn = some (.int kn)) (hi : P.info? e = some i) (hz : i.zero = some (.int .u64 0)) (hsize : i.size = 1) (hby : i.bytes = 8)
    (v : Value) (n : Nat) (xs : List Value) (hown : w.ownsRow base e 1 v n xs) (k : Nat) (h63 : n + k ≤ 1000000) (hbase : base ≤ w.heap.size) :
    ∃ v' w', (Builtin.append_ #[t, tn] ty #[v, .int kq k]).run P w = .ok v' w' ∧ w'.ownsRow base e 1 v' (n + k) (xs ++ List.replicate k (.int .u64 0)) ∧ w.grownBy w' v.ownBlock ∧ (v'.ownBlock = v.ownBlock ∨ v'.ownBlock = some w.heap.size) := by
  have hw : IntKind.i64.wrap (k : Int) = k := by rw [IntKind.wrap_i64]; omega
  have hneg : ¬ ((k : Int) < 0) := by omega
  have hw0 : IntKind.i64.wrap 0 = 0 := by rw [IntKind.wrap_i64]; omega
  have hxl : xs.length = n := by have := hown.1; simpa using this
  have h48i : ¬ (281474976710656 < (k : Int) * 8) := by omega
  rcases hown.2 with ⟨rfl, rfl⟩ | ⟨g, cap, cur, rfl, hbg, hg, hnc, hcm, hcs, htake⟩
  · obtain rfl : xs = [] := List.eq_nil_of_length_eq_zero hxl
    rcases Nat.eq_zero_or_pos k with rfl | hk
    · refine ⟨.slice none 0 0, w, ?_, by simpa using World.ownsRow_nil w base e 1, grown_refl _ _, .inl rfl⟩
      simp [Builtin.append_, run_underlying ht, run_underlying htn, sizeOf, typeInfo, zeroValue, hi, hz, asInt, asIntOf, hw0, Builtin.lenOf]
    · have hr := Lib.run_append_nil_zeros w t tn ty e i (.int .u64 0) kq kn ht htn hi hz k hk (by omega) (by omega) (by rw [hby]; omega)
      have hge := grownCap_ge w k 0 e
      have hcm := grownCap_le_maxLen w k 0 e (by unfold maxLen; omega)
      refine ⟨_, _, hr, ⟨by simp, .inr ⟨w.heap.size, _, _, by rw [Nat.zero_add], hbase, heap_alloc_new w.drew _, by omega, hcm, ?_, ?_⟩⟩, ⟨rfl, rfl, rfl, by simp, fun q hq _ => (heap_alloc_old w.drew _ hq).trans rfl⟩, .inr rfl⟩
      · rw [Array.size_append, size_zeroCells, size_zeroCells]
        simp [Value.cells]
        omega
      · show ((Builtin.zeroCells #[Value.int .u64 0] k ++ _).toList.take _) = _
        rw [zeroCells_one, Array.toList_append]
        simp
  · by_cases hroom : n + k ≤ cap
    · have hfit : n * 1 + 0 + (List.replicate k (Value.int .u64 0)).length ≤ cur.size := by rw [hcs, List.length_replicate]; omega
      have hst := run_storeCells_at P g (n * 1) e (List.replicate k (Value.int .u64 0)) 0 cur w hg hfit (fun u hu => by rw [List.eq_of_mem_replicate hu]; rfl)
      simp only [Nat.mul_one, Nat.add_zero] at hst
      refine ⟨.slice (some ⟨g, 0, none⟩) (n + k) cap, w.setRow g (cur.toList.take n ++ List.replicate k (Value.int .u64 0) ++ cur.toList.drop (n + (List.replicate k (Value.int .u64 0)).length)).toArray, ?_, ⟨by simp [hxl], .inr ⟨g, cap, _, rfl, hbg, setRow_heap w g cur _ e _ hg, hroom, hcm, ?_, ?_⟩⟩, ⟨rfl, rfl, rfl, by simp, fun k _ hk => setRow_other w g k _ (fun e => hk (by simp [Value.ownBlock, e]))⟩, .inl rfl⟩
      · rcases Nat.eq_zero_or_pos k with rfl | hk
        · simp only [List.replicate_zero] at hst
          simp [Builtin.append_, run_underlying ht, run_underlying htn, sizeOf, typeInfo, zeroValue, hi, hz, asInt, asIntOf, hw0, hby, show n ≤ cap by omega, storeCells, setRow_self w g cur e (0, 0) hg]
        · have hzc : Builtin.zeroCells (Value.int .u64 0).cells k = (List.replicate k (Value.int .u64 0)).toArray := zeroCells_one _ _
          have hk0 : k ≠ 0 := by omega
          simp [Builtin.append_, run_underlying ht, run_underlying htn, sizeOf, typeInfo, zeroValue, hi, hz, asInt, asIntOf, hw, hneg, hsize, hby, h48i, hroom, hk0, hzc, Addr.add_lit, hst]
      · simp only [List.size_toArray, List.length_append, List.length_take, List.length_drop, Array.length_toList, List.length_replicate]
        omega
      · have h1 : (cur.toList.take n) = xs := by rw [← htake, Nat.mul_one]
        rw [h1, Nat.mul_one]
        show (xs ++ List.replicate k (Value.int .u64 0) ++ _).take (n + k) = _
        rw [show n + k = (xs ++ List.replicate k (Value.int .u64 0)).length by simp [hxl], List.take_left]
    · have hk : 0 < k := by omega
      have holds : ∀ j u, xs[j]? = some u → w.drew.cell? ((⟨g, 0, none⟩ : Addr).add j) = some u := fun j u h => hown.cells (g := g) rfl j u h
      have hr := Lib.run_append_grow_zeros w t tn ty e i (.int .u64 0) kq kn ht htn hi hz (some ⟨g, 0, none⟩) n cap xs (run_firstCells_some (P := P) w.drew i.size n ⟨g, 0, none⟩ n cap xs (by rw [hsize, hxl, Nat.mul_one]) holds) k hk (by omega) (by omega) (by omega) (by rw [hby]; omega)
        (by rw [hby]; exact growslice_fits (by omega) (by omega))
      have hge := grownCap_ge w (n + k) cap e
      have hcm2 := grownCap_le_maxLen w (n + k) cap e (by unfold maxLen; omega)
      refine ⟨_, _, hr, ⟨by simp [hxl], .inr ⟨w.heap.size, _, _, rfl, hbase, heap_alloc_new w.drew _, by omega, hcm2, ?_, ?_⟩⟩, ⟨rfl, rfl, rfl, by simp, fun q hq _ => (heap_alloc_old w.drew _ hq).trans rfl⟩, .inr rfl⟩
      · rw [Array.size_append, Array.size_append, size_zeroCells, size_zeroCells]
        simp [Value.cells, hxl]
        omega
      · show ((xs.toArray ++ Builtin.zeroCells #[Value.int .u64 0] k ++ _).toList.take _) = _
        rw [zeroCells_one, Array.toList_append, Array.toList_append]
        show (xs ++ List.replicate k (Value.int .u64 0) ++ _).take _ = _
        rw [Nat.mul_one, show n + k = (xs ++ List.replicate k (Value.int .u64 0)).length by simp [hxl], List.take_left]
theorem step_zeros {ops : Array Oper} {o : Oper} {a : Act} {K : Act → World → Prop} {E : Prop} {Q : Exit → Act → World → Prop} (hgd : o.guard = none) (s x : Operand) (t tn : TypeId)
    (ho : o.op = .call { callee := .builtin .append, args := #[s, x], argTypes := #[t, tn] })
    (base : Nat) (e : TypeId) (i : TypeInfo) (kq kn : IntKind) (ht : P.underlying t = some (.slice e)) (htn : P.underlying tn = some (.int kn)) (hi : P.info? e = some i) (hz : i.zero = some (.int .u64 0)) (hsize : i.size = 1) (hby : i.bytes = 8)
    (v : Value) (n : Nat) (xs : List Value) (hs : a.eval s = v) (hown : w.ownsRow base e 1 v n xs) (k : Nat) (hx : a.eval x = .int kq k) (h63 : n + k ≤ 1000000) (hbase : base ≤ w.heap.size)
    (h : ∀ v' w', w'.ownsRow base e 1 v' (n + k) (xs ++ List.replicate k (.int .u64 0)) → w.grownBy w' v.ownBlock → (v'.ownBlock = v.ownBlock ∨ v'.ownBlock = some w.heap.size) → K (a.put o.dst v') w') :
    if Region.wanted o (yielded ops a.tmps) = true then Oper.wp P o a w K Q else E := by
  have hw : Region.wanted o (yielded ops a.tmps) = true := by simp [Region.wanted, hgd]
  rw [if_pos hw]
  obtain ⟨v', w', hrun, r1, r2, r3⟩ := run_append_zeros (P := P) w base t tn o.type e i kq kn ht htn hi hz hsize hby v n xs hown k h63 hbase
  unfold Oper.wp execOp
  simp only [ho, resolve, invoke, builtin, Sem.run_bind, Sem.run_pure, Result.andThen_ok, List.map_toArray, List.map_cons, List.map_nil, hs, hx, hrun]
  exact h v' w' r1 r2 r3
end
end Go.Proofs.YthomeenmcajmdaaGreatDoor
namespace Go.Proofs.YthomeenmcajmdaaGreatDoor
open Go.RowKit Go.Shelf
attribute [local go_sem] Oper.semAt_some
def KeepsRow (Bs b : Nat) (W W' : World) : Prop := W'.cell? ⟨Bs, 0, none⟩ = W.cell? ⟨Bs, 0, none⟩ ∧ ∀ o, W'.cell? ⟨b, o, none⟩ = W.cell? ⟨b, o, none⟩
theorem KeepsRow.refl (Bs b : Nat) (W : World) : KeepsRow Bs b W W := ⟨rfl, fun _ => rfl⟩
theorem KeepsRow.trans {Bs b : Nat} {A B C : World} (h : KeepsRow Bs b A B) (h' : KeepsRow Bs b B C) : KeepsRow Bs b A C := ⟨h'.1.trans h.1, fun o => (h'.2 o).trans (h.2 o)⟩
theorem KeepsRow.put {Bs b n : Nat} (h : Bs < n) (h' : b < n) (W : World) (l : Nat) (o' : Obj) (hl : n ≤ l) : KeepsRow Bs b W (W.putObj l o') := by
  have e : ∀ k, k < n → ∀ o, (W.putObj l o').cell? ⟨k, o, none⟩ = W.cell? ⟨k, o, none⟩ := fun k hk o => by
    unfold World.cell?
    rw [show (W.putObj l o').heap[(⟨k, o, none⟩ : Addr).block]? = W.heap[(⟨k, o, none⟩ : Addr).block]? from World.putObj_heap_other (show k ≠ l by omega)]
  exact ⟨e Bs h 0, e b h'⟩
end Go.Proofs.YthomeenmcajmdaaGreatDoor
namespace Go.Proofs.YthomeenmcajmdaaGreatDoor
variable {p : Int} {n : Nat} {xs C v : List Int}
def PowC (p : Int) (n : Nat) (xs v C : List Int) : Prop := ∀ i k, i < n → k < n → C.getD (i * n + k) 0 = (powL p n xs k v).getD i 0
theorem PowC.app (h : PowC p n xs v C) (hp : 2 ≤ p) (hv : Rng p v) (z : Nat → Int) {i : Nat} (hi : i < n) : appF n (rowOf n C) z i % p = doF n (atF n xs) n z (atV v) i % p := by
  unfold appF doF
  refine sm_mod fun k hk => ?_
  rw [show (rowOf n C i).getD k 0 = C.getD (i * n + k) 0 from tab_get _ hk, h i k hi hk, powL_get hp hv hi, mm_l, Int.mul_comm]
theorem rest_zero {m : Nat} {R : Nat → List Int} {st : ElE} (hp : HasInv p) (h : ElOk p n R m st) {y : Nat → Int} (hy : ∀ i, i < m → appF n R y i % p = 0) {k : Nat} (hk : k < st.U.length) : (sm n fun j => (st.U.getD k []).getD j 0 * y j) % p = 0 := by
  obtain ⟨c, hc⟩ := (h.bas hp).own k hk
  have e1 : (sm n fun j => (st.U.getD k []).getD j 0 * y j) % p = (sm n fun j => (sm m fun i => c i * lf (R i) j) * y j) % p := sm_mod fun j hj => by
    rw [← mm_l, show (st.U.getD k []).getD j 0 % p = (sm m fun i => c i * lf (R i) j) % p from hc j hj, mm_l]
  rw [e1, sm_congr (g := fun j => sm m fun i => c i * (lf (R i) j * y j)) fun j _ => by rw [← sm_mul_r]; exact sm_congr fun i _ => Int.mul_assoc _ _ _, sm_comm]
  refine sm_mz fun i hi => ?_
  rw [sm_mul]
  exact mz_mul (hy i hi) _
theorem PowC.cols (hC : PowC p n xs v C) (ok : MatOk p n n C) (hf : Fld p) (hv : Rng p v) {g : List Int} (hg : OwnL p n xs v g) : ∀ j, j ∈ (takeL p n n C).cols → j < g.length - 1 := by
  have hp := (rightB_true ok.hp).1
  have h := takeL_ok (m := n) (n := n) hp hf ok.hx
  intro j hj
  refine Classical.byContradiction fun hlt => ?_
  have hg0 := List.length_pos_iff.2 hg.ne
  obtain ⟨k, hk, e⟩ := List.getElem_of_mem hj
  have hku : k < (takeL p n n C).U.length := by rw [← h.lk]; exact hk
  have e' : (takeL p n n C).cols.getD k 0 = j := by rw [List.getD, List.getElem?_eq_getElem hk]; exact e
  obtain ⟨r1, r2, r3, r4, r5, r6⟩ := h.row k hku
  rw [e'] at r3 r5 r6
  have hk0 : Kil p n (atF n xs) (Ser.up (j - (g.length - 1)) (pol p g)) (atV v) := by
    have h1 := (hg.kil _ rfl).mul (q := Ser.up (j - (g.length - 1)) 1) ⟨_, (Ser.low_C 1).up _⟩
    rwa [Ser.up_mul, Ser.one_mul] at h1
  have hl : (Ser.up (j - (g.length - 1)) (pol p g)).low (j + 1) := ((pol_low g).up _).mono (by omega)
  have htop : (Ser.up (j - (g.length - 1)) (pol p g)).co j = 1 := by
    rw [Ser.up_co, if_neg (by omega), show j - (j - (g.length - 1)) = g.length - 1 by omega, hg.isp.rng.co]
    exact hg.mon
  have hz := rest_zero (hf.has hp) h (y := (Ser.up (j - (g.length - 1)) (pol p g)).co) (fun i hi => by
    rw [hC.app hp hv _ hi]
    exact hk0.at_ (hl.mono (by omega)) i hi) hku
  rw [sm_congr (g := fun t => if t = j then ((takeL p n n C).U.getD k []).getD t 0 else 0) fun t _ => by
    rcases Nat.lt_trichotomy t j with c | c | c
    · rw [r5 t c, if_neg (by omega), Int.zero_mul]
    · subst c; rw [htop, if_pos rfl, Int.mul_one]
    · rw [hl t (by omega), if_neg (by omega), Int.mul_zero], sm_single (fun t => ((takeL p n n C).U.getD k []).getD t 0) r3] at hz
  have hr := r2.getD hp j
  rw [mod_small hr.1 hr.2] at hz
  exact r6 hz
theorem PowC.kernel (hC : PowC p n xs v C) (ok : MatOk p n n C) (hf : Fld p) (hv : Rng p v) {g x : List Int} (hg : OwnL p n xs v g) (hx : IsK p n n C x) : trimL x = g := by
  have hp := (rightB_true ok.hp).1
  have hg0 := List.length_pos_iff.2 hg.ne
  have hcol := hC.cols ok hf hv hg
  have hlen := hg.len (hf.has hp)
  obtain ⟨c, hce⟩ : ∃ c, freeC n (takeL p n n C).cols = c := ⟨_, rfl⟩
  have hfree := hx.free
  have hoff := hx.off
  rw [hce] at hfree hoff
  have hkil : Kil p n (atF n xs) (pol p x) (atV v) := ⟨n, by rw [← hx.len]; exact pol_low x, fun i hi => by
    rw [← hC.app hp hv _ hi]
    have h1 := times_get (p := p) (n := n) (xs := C) (x := x) hi
    rw [hx.sol, replicate_get] at h1
    rw [h1]
    exact app_mod (fun j _ => by rw [hx.rng.co]; rfl) i⟩
  have hle : c ≤ g.length - 1 := by
    refine Classical.byContradiction fun hn => ?_
    have h1 := freeC_low (n := n) (cols := (takeL p n n C).cols) (j := g.length - 1) (by rw [hce]; omega)
    have := hcol _ h1
    omega
  have hx0 : ∀ j, g.length - 1 ≤ j → j ≠ c → x.getD j 0 = 0 := fun j hj hne => by
    rcases Nat.lt_or_ge j n with q | q
    · exact hoff j q (fun hm => by have := hcol j hm; omega) hne
    · exact getD_over (by rw [hx.len]; exact q)
  have hcs : c = g.length - 1 := by
    refine Classical.byContradiction fun hn => ?_
    have h0 := hg.less hp (f := pol p x) (fun k hk => by rw [hx.rng.co]; exact hx0 k hk (by omega)) fun u hu => hu ▸ hkil
    have h1 : (pol p x).co c = 1 := by rw [hx.rng.co]; exact hfree
    rw [h0, Ser.zero_co] at h1
    omega
  have he := hg.eq hp (f := pol p x) (fun k hk => by rw [hx.rng.co]; exact hx0 k (by omega) (by omega)) (by rw [← hcs, hx.rng.co]; exact hfree) fun u hu => hu ▸ hkil
  have ht := trimL_pol hx.rng
  exact ht.1.inj hg.isp (by rw [ht.2, he])
theorem PowC.full (hC : PowC p n xs v C) (ok : MatOk p n n C) (hf : Fld p) (hv : Rng p v) {g : List Int} (hg : OwnL p n xs v g) (hc : ¬ freeC n (takeL p n n C).cols < n) : g.length = n + 1 := by
  have hp := (rightB_true ok.hp).1
  have hlen := hg.len (hf.has hp)
  have hg0 := List.length_pos_iff.2 hg.ne
  refine Classical.byContradiction fun hn => ?_
  have hcol := hC.cols ok hf hv hg
  have := hcol (g.length - 1) (freeC_low (n := n) (by omega))
  omega
theorem PowC.sol (hC : PowC p n xs v C) (ok : MatOk p n n C) (hf : Fld p) (hv : Rng p v) (hvl : v.length = n) {g : List Int} (hg : OwnL p n xs v g) (hl : g.length = n + 1) : ∃ z, IsX p n n C (powL p n xs n v) z ∧ (tab n fun k => (0 - z.getD k 0) % p) ++ [1] = g := by
  have hp := (rightB_true ok.hp).1
  have hkil := (hg.kil _ rfl).at_ (d := n + 1) (by rw [← hl]; exact pol_low g)
  have h1 : (pol p g).co n = 1 := by
    rw [hg.isp.rng.co]
    have := hg.mon
    unfold lead at this
    rwa [hl, Nat.add_sub_cancel] at this
  have happ : ∀ i, i < n → appF n (rowOf n C) (fun k => -(pol p g).co k) i % p = atV (powL p n xs n v) i % p := fun i hi => by
    rw [hC.app hp hv _ hi, powL_mod n i hi]
    have h2 := hkil i hi
    have e : doF n (atF n xs) n (fun k => -(pol p g).co k) (atV v) i = -doF n (atF n xs) n (pol p g).co (atV v) i := by
      unfold doF
      rw [← sm_neg]
      exact sm_congr fun k _ => Int.neg_mul _ _
    rw [e, mz_sub]
    have h3 : doF n (atF n xs) (n + 1) (pol p g).co (atV v) i = doF n (atF n xs) n (pol p g).co (atV v) i + itF n (atF n xs) n (atV v) i := by
      show _ + (pol p g).co n * _ = _
      rw [h1, Int.one_mul]; rfl
    rw [h3] at h2
    have h4 := mz_neg h2
    rwa [show -(doF n (atF n xs) n (pol p g).co (atV v) i + itF n (atF n xs) n (atV v) i) = -doF n (atF n xs) n (pol p g).co (atV v) i - itF n (atF n xs) n (atV v) i by omega] at h4
  obtain ⟨z, hz⟩ := IsX.of ok hf (b := powL p n xs n v) (by rw [powL_len hvl n]) (powL_rng hp hv n) happ
  refine ⟨z, hz, ?_⟩
  have hz1 : ∀ i, i < n → itF n (atF n xs) n (atV v) i % p = (sm n fun k => z.getD k 0 * itF n (atF n xs) k (atV v) i) % p := fun i hi => by
    have h2 := times_get (p := p) (n := n) (xs := C) (x := z) hi
    rw [hz.sol, hC.app hp hv _ hi, powL_get hp hv hi] at h2
    exact h2
  have hz2 := hg.eq hp (f := topS p n fun k => z.getD k 0) (by rw [hl]; exact topS_low _ _) (by rw [hl, Nat.add_sub_cancel]; exact topS_top hp _ _) fun u hu => hu ▸ topS_kil hz1
  have hlen : ((tab n fun k => (0 - z.getD k 0) % p) ++ [1]).length = n + 1 := by rw [List.length_append, tab_len]; rfl
  refine list_ext (by rw [hlen, hl]) fun j hj => ?_
  rw [hlen] at hj
  rw [← hg.isp.rng.co, ← hz2]
  show _ = (if j = n then 1 else if j < n then - z.getD j 0 else 0) % p
  rcases Nat.lt_or_ge j n with c | c
  · rw [if_neg (by omega), if_pos c, getD_app _ _ _ (by rw [tab_len]; exact c), tab_get _ c, Int.zero_sub]
  · obtain rfl : j = n := by omega
    have e1 : ((tab j fun k => (0 - z.getD k 0) % p) ++ [1]).getD j 0 = 1 := getD_end _ _ _ (tab_len _ _).symm
    rw [if_pos rfl, e1]
    exact (mod_small (by omega) (by omega)).symm
end Go.Proofs.YthomeenmcajmdaaGreatDoor
namespace Go.Proofs.YthomeenmcajmdaaGreatDoor
variable {p : Int} {m n r : Nat}
structure Pt (p : Int) (m n r : Nat) (C U : List (List Int)) (R K : List Nat) : Prop where
  ok : CupOk p m n C U
  ur : U.length = r
  rr : R.length = r
  kr : K.length = r
  rlow : ∀ k, k < r → R.getD k 0 < m
  klow : ∀ k, k < r → K.getD k 0 < n
  one : ∀ k, k < r → (C.getD (R.getD k 0) []).getD k 0 = 1
  low : ∀ k t, k < r → k < t → (C.getD (R.getD k 0) []).getD t 0 = 0
  unit : ∀ k, k < r → unitB p ((U.getD k []).getD (K.getD k 0) 0) = true
  zero : ∀ k j, j < k → k < r → (U.getD k []).getD (K.getD j 0) 0 = 0
theorem getD_out_nil {l : List Int} {k : Nat} (h : l.length ≤ k) : l.getD k 0 = 0 := by
  rw [List.getD, List.getElem?_eq_none h]; rfl
theorem take_pt {xs : List Int} (ok : MatOk p m n xs) (hf : Fld p) : Pt p m n (takeL p m n xs).U.length ((takeL p m n xs).C.map (padL (takeL p m n xs).U.length)) (takeL p m n xs).U (takeL p m n xs).rows (takeL p m n xs).cols := by
  have hp := (rightB_true ok.hp).1
  have h := takeL_ok (m := m) (n := n) hp hf ok.hx
  have hlow := fun k (hk : k < (takeL p m n xs).U.length) => h.low k (by rw [h.lr]; exact hk)
  refine ⟨take_parts ok hf, rfl, h.lr, h.lk, hlow, fun k hk => (h.row k hk).2.2.1, fun k hk => ?_, fun k t hk ht => ?_, fun k hk => (h.row k hk).2.2.2.1, h.zero⟩
  · rw [map_getD (by rw [h.lc]; exact hlow k hk), padL_get]
    exact (h.one k (by rw [h.lr]; exact hk)).2
  · rw [map_getD (by rw [h.lc]; exact hlow k hk), padL_get]
    exact getD_out_nil (by rw [(h.one k (by rw [h.lr]; exact hk)).1]; omega)
theorem mod_back {s c : Int} (h0 : 0 ≤ c) (h1 : c < p) : (s + (c - s % p) % p) % p = c := by
  rw [Int.add_emod, Int.emod_emod, ← Int.add_emod, show s + (c - s % p) = c + (s - s % p) by omega, Int.add_emod, Int.sub_emod, Int.emod_emod, Int.sub_self, Int.zero_emod, Int.add_zero, Int.emod_emod]
  exact mod_small h0 h1
theorem sm_dif (f g : Nat → Int) (n : Nat) : sm n f - sm n g = sm n fun i => f i - g i := by
  rw [Int.sub_eq_add_neg, ← sm_neg, ← sm_add]
  exact sm_congr fun _ _ => (Int.sub_eq_add_neg).symm
theorem sm_set (a : Nat → Int) {l : List Int} (hl : l.length = r) {k : Nat} (hk : k < r) (x : Int) : (sm r fun t => a t * (l.set k x).getD t 0) = (sm r fun t => a t * l.getD t 0) + a k * (x - l.getD k 0) := by
  rw [← sm_single (fun t => a t * (x - l.getD t 0)) hk, ← sm_add]
  refine sm_congr fun t _ => ?_
  rw [set_get l k t x (by rw [hl]; exact hk)]
  by_cases e : k = t
  · subst e; rw [if_pos rfl, if_pos rfl, Int.mul_sub]; omega
  · rw [if_neg e, if_neg (fun h => e h.symm), Int.add_zero]
theorem Rng.set'' {l : List Int} (h : Rng p l) (i : Nat) {x : Int} (h0 : 0 ≤ x) (h1 : x < p) : Rng p (l.set i x) := fun y hy => by
  rcases List.mem_or_eq_of_mem_set hy with h2 | rfl
  · exact h y h2
  · exact ⟨h0, h1⟩
section
variable {C U : List (List Int)} {R K : List Nat}
theorem Pt.two (P : Pt p m n r C U R K) : 2 ≤ p := (rightB_true P.ok.hp).1
theorem Pt.r_one (P : Pt p m n r C U R K) {t k : Nat} (ht : t < k) (hk : k < r) : R.getD t 0 ≠ R.getD k 0 := fun e => by
  have h1 := P.low t k (by omega) ht
  rw [e, P.one k hk] at h1
  omega
theorem Pt.k_one (P : Pt p m n r C U R K) {t k : Nat} (ht : t < k) (hk : k < r) : K.getD t 0 ≠ K.getD k 0 := fun e => by
  have h1 := P.zero k t ht hk
  rw [e] at h1
  exact unit_zero P.two (P.unit k hk) h1
structure Fwd (p : Int) (r : Nat) (C : List (List Int)) (R : List Nat) (b : List Int) (k : Nat) (l : List Int) : Prop where
  len : l.length = r
  rng : Rng p l
  off : ∀ t, k ≤ t → l.getD t 0 = 0
  dot : ∀ j, j < k → (sm r fun t => (C.getD (R.getD j 0) []).getD t 0 * l.getD t 0) % p = b.getD (R.getD j 0) 0
theorem Fwd.start (hp : 2 ≤ p) (b : List Int) : Fwd p r C R b 0 (List.replicate r 0) :=
  ⟨List.length_replicate, zeros_rng hp r, fun t _ => replicate_get r t, fun _ hj => absurd hj (Nat.not_lt_zero _)⟩
theorem Fwd.step (P : Pt p m n r C U R K) {b : List Int} (hb : Rng p b) {k : Nat} (hk : k < r) {l : List Int} (h : Fwd p r C R b k l) {s x : Int} (hs : (sm r fun t => (C.getD (R.getD k 0) []).getD t 0 * l.getD t 0) % p = s) (hx : (b.getD (R.getD k 0) 0 - s) % p = x) : Fwd p r C R b (k + 1) (l.set k x) := by
  have hx2 := mod_range (b.getD (R.getD k 0) 0 - s) P.two
  rw [hx] at hx2
  refine ⟨by rw [List.length_set]; exact h.len, h.rng.set'' k hx2.1 hx2.2, fun t ht => ?_, fun j hj => ?_⟩
  · rw [set_get l k t x (by rw [h.len]; exact hk), if_neg (by omega)]
    exact h.off t (by omega)
  · rw [sm_set _ h.len hk, h.off k (Nat.le_refl _), Int.sub_zero]
    rcases Nat.lt_or_ge j k with c | c
    · rw [P.low j k (by omega) c, Int.zero_mul, Int.add_zero]
      exact h.dot j c
    · obtain rfl : j = k := by omega
      have hb2 := hb.getD P.two (R.getD j 0)
      rw [P.one j hk, Int.one_mul, ← hx, ← hs]
      exact mod_back hb2.1 hb2.2
structure Bck (p : Int) (n r : Nat) (U : List (List Int)) (K : List Nat) (made x0 : List Int) (k : Nat) (x : List Int) : Prop where
  len : x.length = n
  rng : Rng p x
  own : ∀ t, t < k → x.getD (K.getD t 0) 0 = 0
  off : ∀ j, j ∉ K → x.getD j 0 = x0.getD j 0
  dot : ∀ t, k ≤ t → t < r → (sm n fun j => (U.getD t []).getD j 0 * x.getD j 0) % p = made.getD t 0
theorem Bck.start {made x0 : List Int} (hl : x0.length = n) (hr : Rng p x0) (h0 : ∀ t, t < r → x0.getD (K.getD t 0) 0 = 0) : Bck p n r U K made x0 r x0 :=
  ⟨hl, hr, h0, fun _ _ => rfl, fun t h1 h2 => absurd h2 (by omega)⟩
theorem Bck.step (P : Pt p m n r C U R K) {made x0 : List Int} (hm : Rng p made) {k : Nat} (hk : k < r) {x : List Int} (h : Bck p n r U K made x0 (k + 1) x) {s d q : Int} (hs : (sm n fun j => (U.getD k []).getD j 0 * x.getD j 0) % p = s) (hd : (made.getD k 0 - s) % p = d)
    (hq : d * minv p ((U.getD k []).getD (K.getD k 0) 0) % p = q) : Bck p n r U K made x0 k (x.set (K.getD k 0) q) := by
  have hp := P.two
  have hq2 := mod_range (d * minv p ((U.getD k []).getD (K.getD k 0) 0)) hp
  rw [hq] at hq2
  have hkn := P.klow k hk
  have hz : x.getD (K.getD k 0) 0 = 0 := h.own k (by omega)
  refine ⟨by rw [List.length_set]; exact h.len, h.rng.set'' _ hq2.1 hq2.2, fun t ht => ?_, fun j hj => ?_, fun t h1 h2 => ?_⟩
  · rw [set_get x _ _ q (by rw [h.len]; exact hkn), if_neg (fun e => P.k_one ht hk e.symm)]
    exact h.own t (by omega)
  · rw [set_get x _ _ q (by rw [h.len]; exact hkn), if_neg (fun e => hj (by rw [← e, List.getD, List.getElem?_eq_getElem (by rw [P.kr]; exact hk)]; exact List.getElem_mem _))]
    exact h.off j hj
  · rw [sm_set _ h.len hkn, hz, Int.sub_zero]
    rcases Nat.lt_or_ge k t with c | c
    · rw [P.zero t k c h2, Int.zero_mul, Int.add_zero]
      exact h.dot t c h2
    · obtain rfl : t = k := by omega
      have hu := P.unit t hk
      have hub := ((P.ok.u _ (getD_mem [] (show t < U.length by rw [P.ur]; exact hk))).2).getD hp (K.getD t 0)
      have hi := unit_inv p _ hp hub.1 hu
      have hb2 := hm.getD hp t
      have e : (U.getD t []).getD (K.getD t 0) 0 * q % p = d % p := by
        rw [← hq, mm_r, show (U.getD t []).getD (K.getD t 0) 0 * (d * minv p ((U.getD t []).getD (K.getD t 0) 0)) = d * ((U.getD t []).getD (K.getD t 0) 0 * minv p ((U.getD t []).getD (K.getD t 0) 0)) by grind, ← mm_r, hi, Int.mul_one]
      rw [Int.add_emod, e, ← Int.add_emod, ← hd, ← hs]
      exact mod_back hb2.1 hb2.2
structure Unm (p : Int) (m r : Nat) (C : List (List Int)) (R : List Nat) (i k : Nat) (y : List Int) : Prop where
  len : y.length = m
  rng : Rng p y
  own : ∀ t, t < k → y.getD (R.getD t 0) 0 = 0
  at_ : y.getD i 0 = 1
  off : ∀ j, j ∉ R → j ≠ i → y.getD j 0 = 0
  dot : ∀ t, k ≤ t → t < r → (sm m fun j => (C.getD j []).getD t 0 * y.getD j 0) % p = 0
theorem unit_get {i j : Nat} (hi : i < m) : ((List.replicate m (0 : Int)).set i 1).getD j 0 = if i = j then 1 else 0 := by
  rw [set_get _ i j 1 (by rw [List.length_replicate]; exact hi), replicate_get]
theorem Unm.start (hp : 2 ≤ p) {i : Nat} (hi : i < m) (hc : i ∉ R) (hr : R.length = r) : Unm p m r C R i r ((List.replicate m 0).set i 1) := by
  refine ⟨by rw [List.length_set, List.length_replicate], (zeros_rng hp m).set'' i (by omega) (by omega), fun t ht => ?_, by rw [unit_get hi, if_pos rfl], fun j _ hne => ?_, fun t h1 h2 => absurd h2 (by omega)⟩
  · rw [unit_get hi, if_neg (fun e => hc (by rw [e, List.getD, List.getElem?_eq_getElem (by rw [hr]; exact ht)]; exact List.getElem_mem _))]
  · rw [unit_get hi, if_neg (fun e => hne e.symm)]
theorem Unm.step (P : Pt p m n r C U R K) {i : Nat} (hc : i ∉ R) {k : Nat} (hk : k < r) {y : List Int} (h : Unm p m r C R i (k + 1) y) {s x : Int} (hs : (sm m fun j => (C.getD j []).getD k 0 * y.getD j 0) % p = s) (hx : (0 - s) % p = x) : Unm p m r C R i k (y.set (R.getD k 0) x) := by
  have hp := P.two
  have hx2 := mod_range (0 - s) hp
  rw [hx] at hx2
  have hkm := P.rlow k hk
  have hmem : R.getD k 0 ∈ R := by rw [List.getD, List.getElem?_eq_getElem (by rw [P.rr]; exact hk)]; exact List.getElem_mem _
  have hz : y.getD (R.getD k 0) 0 = 0 := h.own k (by omega)
  refine ⟨by rw [List.length_set]; exact h.len, h.rng.set'' _ hx2.1 hx2.2, fun t ht => ?_, ?_, fun j hj hne => ?_, fun t h1 h2 => ?_⟩
  · rw [set_get y _ _ x (by rw [h.len]; exact hkm), if_neg (fun e => P.r_one ht hk e.symm)]
    exact h.own t (by omega)
  · rw [set_get y _ _ x (by rw [h.len]; exact hkm), if_neg (fun e => hc (by rw [← e]; exact hmem))]
    exact h.at_
  · rw [set_get y _ _ x (by rw [h.len]; exact hkm), if_neg (fun e => hj (by rw [← e]; exact hmem))]
    exact h.off j hj hne
  · rw [sm_set (fun j => (C.getD j []).getD t 0) h.len hkm, hz, Int.sub_zero]
    rcases Nat.lt_or_ge k t with c | c
    · rw [P.low k t hk c, Int.zero_mul, Int.add_zero]
      exact h.dot t c h2
    · obtain rfl : t = k := by omega
      rw [P.one t hk, Int.one_mul, ← hx, ← hs]
      exact mod_back (by omega) (by omega)
end
section
variable {xs : List Int}
theorem row_parts (ok : MatOk p m n xs) (hf : Fld p) {i j : Nat} (hi : i < m) (hj : j < n) : (rowOf n xs i).getD j 0 % p = (sm (takeL p m n xs).U.length fun t => (((takeL p m n xs).C.map (padL (takeL p m n xs).U.length)).getD i []).getD t 0 * ((takeL p m n xs).U.getD t []).getD j 0) % p := by
  have h := takeL_ok (m := m) (n := n) (rightB_true ok.hp).1 hf ok.hx
  rw [h.full hi hj, map_getD (by rw [h.lc]; exact hi)]
  exact congrArg (· % p) (sm_congr fun t _ => by rw [padL_get])
theorem app_parts {Q : Nat → List Int} {c u : Nat → Nat → Int} (h : ∀ i j, i < m → j < n → (Q i).getD j 0 % p = (sm r fun t => c i t * u t j) % p) (x : Nat → Int) {i : Nat} (hi : i < m) : appF n Q x i % p = (sm r fun t => c i t * (sm n fun j => u t j * x j)) % p := by
  have e1 : appF n Q x i % p = (sm n fun j => (sm r fun t => c i t * u t j) * x j) % p := sm_mod fun j hj => by rw [← mm_l, h i j hi hj, mm_l]
  rw [e1]
  refine congrArg (· % p) ?_
  rw [sm_congr (g := fun j => sm r fun t => c i t * (u t j * x j)) fun j _ => by
    rw [← sm_mul_r]
    exact sm_congr fun t _ => by rw [Int.mul_assoc], sm_comm]
  exact sm_congr fun t _ => sm_mul _ _ _
variable {C U : List (List Int)} {R K : List Nat}
theorem isX_of (ok : MatOk p m n xs) (hf : Fld p) {b made x : List Int} (hb : b.length = m) (hr : Rng p b)
    (hm : ∀ i, i < m → (sm (takeL p m n xs).U.length fun t => (((takeL p m n xs).C.map (padL (takeL p m n xs).U.length)).getD i []).getD t 0 * made.getD t 0) % p = b.getD i 0)
    (h : Bck p n (takeL p m n xs).U.length (takeL p m n xs).U (takeL p m n xs).cols made (List.replicate n 0) 0 x) : IsX p m n xs b x := by
  have hp := (rightB_true ok.hp).1
  refine ⟨h.len, h.rng, times_eq hp hb hr fun i hi => ?_, fun j _ hc => by rw [h.off j hc, replicate_get]⟩
  have hb2 := hr.getD hp i
  rw [app_parts (fun i j hi hj => row_parts ok hf hi hj) (atV x) hi]
  have e : (sm (takeL p m n xs).U.length fun t => (((takeL p m n xs).C.map (padL (takeL p m n xs).U.length)).getD i []).getD t 0 * (sm n fun j => ((takeL p m n xs).U.getD t []).getD j 0 * atV x j)) % p = (sm (takeL p m n xs).U.length fun t => (((takeL p m n xs).C.map (padL (takeL p m n xs).U.length)).getD i []).getD t 0 * made.getD t 0) % p :=
    sm_mod fun t ht => by
      have := h.dot t (Nat.zero_le _) ht
      rw [← mm_r, show (sm n fun j => ((takeL p m n xs).U.getD t []).getD j 0 * atV x j) % p = made.getD t 0 from this]
  rw [e, hm i hi]
  exact (mod_small hb2.1 hb2.2).symm
theorem isX_not (ok : MatOk p m n xs) (hf : Fld p) {b made : List Int}
    (h : Fwd p (takeL p m n xs).U.length ((takeL p m n xs).C.map (padL (takeL p m n xs).U.length)) (takeL p m n xs).rows b (takeL p m n xs).U.length made)
    {i : Nat} (hi : i < m) (hne : (sm (takeL p m n xs).U.length fun t => (((takeL p m n xs).C.map (padL (takeL p m n xs).U.length)).getD i []).getD t 0 * made.getD t 0) % p ≠ b.getD i 0) : ¬ ∃ x, IsX p m n xs b x := fun ⟨x, hx⟩ => by
  have hp := (rightB_true ok.hp).1
  have P := take_pt ok hf
  obtain ⟨z, hz⟩ : ∃ z : Nat → Int, (fun t => sm n fun j => ((takeL p m n xs).U.getD t []).getD j 0 * atV x j) = z := ⟨_, rfl⟩
  have key : ∀ i, i < m → (sm (takeL p m n xs).U.length fun t => (((takeL p m n xs).C.map (padL (takeL p m n xs).U.length)).getD i []).getD t 0 * z t) % p = b.getD i 0 := fun i hi => by
    have h1 := times_get (p := p) (n := n) (xs := xs) (x := x) hi
    rw [hx.sol, app_parts (fun i j hi hj => row_parts ok hf hi hj) (atV x) hi] at h1
    rw [h1, ← hz]
  have hsame : ∀ t, t < (takeL p m n xs).U.length → made.getD t 0 % p = z t % p := by
    intro t
    induction t using Nat.strongRecOn with
    | ind t ih =>
      intro ht
      have h1 := h.dot t ht
      have h2 := key _ (P.rlow t ht)
      rw [← h2, mz_sub, sm_dif] at h1
      have e : (sm (takeL p m n xs).U.length fun s => (((takeL p m n xs).C.map (padL (takeL p m n xs).U.length)).getD ((takeL p m n xs).rows.getD t 0) []).getD s 0 * made.getD s 0 - (((takeL p m n xs).C.map (padL (takeL p m n xs).U.length)).getD ((takeL p m n xs).rows.getD t 0) []).getD s 0 * z s) % p = (sm (takeL p m n xs).U.length fun s => if s = t then made.getD s 0 - z s else 0) % p := sm_mod fun s hs => by
        rcases Nat.lt_trichotomy s t with c | c | c
        · rw [if_neg (by omega), ← Int.mul_sub, mz_mul (mz_sub.1 (ih s c hs))]; simp
        · subst c
          rw [if_pos rfl, P.one s ht, Int.one_mul, Int.one_mul]
        · rw [if_neg (by omega), P.low t s ht c]; simp
      rw [e, sm_single (fun s => made.getD s 0 - z s) ht] at h1
      exact mz_sub.2 h1
  apply hne
  rw [← key i hi]
  exact sm_mod fun t ht => by rw [← mm_r, hsame t ht, mm_r]
theorem isK_of (ok : MatOk p m n xs) (hf : Fld p) {x : List Int} (hr : freeC n (takeL p m n xs).cols < n)
    (h : Bck p n (takeL p m n xs).U.length (takeL p m n xs).U (takeL p m n xs).cols (List.replicate (takeL p m n xs).U.length 0) ((List.replicate n 0).set (freeC n (takeL p m n xs).cols) 1) 0 x) : IsK p m n xs x := by
  have hp := (rightB_true ok.hp).1
  refine ⟨h.len, h.rng, times_eq hp List.length_replicate (zeros_rng hp m) fun i hi => ?_, ?_, fun j _ hc hne => ?_⟩
  · rw [app_parts (fun i j hi hj => row_parts ok hf hi hj) (atV x) hi]
    unfold atV
    rw [replicate_get]
    have : (sm (takeL p m n xs).U.length fun t => (((takeL p m n xs).C.map (padL (takeL p m n xs).U.length)).getD i []).getD t 0 * (sm n fun j => ((takeL p m n xs).U.getD t []).getD j 0 * x.getD j 0)) % p = 0 := sm_mz fun t ht => mz_mul (by rw [h.dot t (Nat.zero_le _) ht, replicate_get]) _
    rw [this]; simp
  · rw [h.off _ (freeC_not hr), unit_get hr, if_pos rfl]
  · rw [h.off j hc, unit_get hr, if_neg (fun e => hne e.symm)]
end
end Go.Proofs.YthomeenmcajmdaaGreatDoor
namespace Go.Proofs.YthomeenmcajmdaaGreatDoor
open Go.RowKit
variable {P : Program} {ops : Array Oper} {Q : Exit → Act → World → Prop} {md : Region.Mode}
theorem upon_round {o : Oper} {a : Act} {K K' : Act → World → Prop} {l n : Nat} (hK : ∀ a w, K a w → K' a w) : ∀ r : Result Next, o.upon P a K Q r → o.uponIn (Fence.wide.inRound l) n P a K' Q r := by
  intro r h
  cases r with
  | ok x w' =>
    cases x <;> simp only [Oper.upon, Oper.uponIn] at h ⊢ <;> first | exact hK _ _ h | skip
    case enter f args =>
      refine ⟨fun h' => (by cases h'), ?_⟩
      refine (CallsIn.inRound l ((callsIn_wide (n := n - 1)).2 h)).mono ?_
      intro e w'' he
      cases e <;> first | exact hK _ _ he | exact he
    case row row args =>
      refine ⟨fun h' => (by cases h'), fun c cs _ => ?_⟩
      obtain ⟨v, w'', hr, hs⟩ := h c cs
      exact ⟨v, w'', hK _ _ hr, stepsIn_wide.2 hs⟩
  | halt x w' => cases x <;> simp only [Oper.upon, Oper.uponIn] at h ⊢ <;> first | exact h | exact h.elim
theorem wpOp_round {l n i : Nat} (hnd : ∀ o ∈ ops, ∀ c, o.op ≠ .defer c) (hQ : ¬ LetsOut Q) {a : Act} {w : World} {K K' : Act → World → Prop} (hK : ∀ a w, K a w → K' a w) (h : wpOp P ops Q i K a w) : wpOpIn (Fence.wide.inRound l) n P ops Q i K' a w := by
  unfold wpOp at h
  unfold wpOpIn
  cases ho : ops[i]? with
  | none => simp only [ho] at h ⊢; exact hK _ _ h
  | some o =>
    simp only [ho] at h ⊢
    have hmem : o ∈ ops := Array.mem_of_getElem? ho
    split
    · rename_i hw
      rw [if_pos hw] at h
      rcases h with h | h
      · unfold Oper.wp at h
        unfold Oper.wpIn
        refine ⟨fun _ _ => trivial, ?_⟩
        rw [show (Fence.wide.inRound l).round = some l from rfl, Oper.semAt_some l _ o (hnd o hmem)]
        exact upon_round hK _ h
      · exact absurd h.2 hQ
    · rename_i hw
      rw [if_neg hw] at h
      exact ⟨fun _ _ => trivial, hK _ _ h⟩
theorem wpAny_round {l n : Nat} (hnd : ∀ o ∈ ops, ∀ c, o.op ≠ .defer c) (hQ : ¬ LetsOut Q) : ∀ (fuel : Nat) (listed : Array Bool) (a : Act) (w : World), wpAny P md ops Q fuel listed a w → wpAnyIn (Fence.wide.inRound l) n P md ops Q fuel listed a w
  | 0, _, _, _, h => h
  | fuel + 1, _, _, _, h => ⟨h.1, fun i hi => wpOp_round hnd hQ (fun a' w' h' => wpAny_round hnd hQ fuel _ a' w' h') (h.2 i hi)⟩
theorem region_round {id l n : Nat} {a : Act} {w : World} (S : World → Prop) (hm : P.follows .mixedOrders = true) (hnd : (ops.all fun o => match o.op with | .defer _ => false | _ => true) = true) (hQ : ¬ LetsOut Q) (hS : S w.drew)
    (h : S w.drew → wpAnyH P .any ops Q S ops.size (Array.replicate ops.size false) a w.drew) : (Code.region id ops true).wpIn (Fence.wide.inRound l) n P Q a w := by
  refine wpIn_region_any hm (wpAny_round (fun o ho c e => ?_) hQ _ _ _ _ (wpAny_of_held _ _ _ _ (h hS)))
  have := Array.all_eq_true'.1 hnd o ho
  rw [e] at this
  cases this
theorem held_step {S : World → Prop} {fuel : Nat} {listed : Array Bool} {a : Act} {w : World} (i : Nat) {o : Oper} (hr : Region.ready md ops listed = [i]) (ho : ops[i]? = some o)
    (h : ∀ K' : Act → World → Prop, Shut (∀ a w, S w → (S w → wpAnyH P md ops Q S fuel (listed.setIfInBounds i true) a w) → K' a w) → if Region.wanted o (yielded ops a.tmps) = true then Oper.wp P o a w K' Q else K' (a.put o.dst undef) w) :
    wpAnyH P md ops Q S (fuel + 1) listed a w := wpAnyH_ready hr (by simp) (AllReadyH.cons ho h AllReadyH.nil)
end Go.Proofs.YthomeenmcajmdaaGreatDoor
namespace Go.Proofs.YthomeenmcajmdaaGreatDoor
open Go.RowKit Go.ChangeShapes Go.WideShapes Go.ChangeAt Go.Deep Go.Joins
variable {H : Type} {enc : TypeId × Value → H} {W : World} {base : Nat} {spare : Nat → Bool}
theorem trod_Ints {P : Program} {t e : TypeId} {k : IntKind} {v : Value} {y : DataW H × List MemPlace} {n : Nat} (ht : P.underlying t = some (.slice e)) (he : P.underlying e = some (.int k)) (hc : P.cellsOf e = 1)
    (h : DataW.trod enc P W 0 spare true n t [v] = some y) : ∃ xs : List Int, Ints k W v xs ∧ ∀ x ∈ xs, (Lit.int k x).wf = true := by
  rcases open_ints ht he hc h with ⟨hcs, _⟩ | ⟨a, len, cap, zs, hcs, _, hl, hm, hz, _, hcell, hwz⟩
  · obtain rfl : v = .slice none 0 0 := by simpa using hcs
    exact ⟨[], Ints.nil, by simp⟩
  · obtain rfl : v = .slice (some a) len cap := by simpa using hcs
    unfold maxLen at hm
    have hlz : len ≤ zs.length := by rw [hz]; split <;> omega
    have hlen : (zs.take len).length = len := by simp; omega
    refine ⟨zs.take len, ⟨some a, cap, by rw [hlen], by omega, by omega, fun hp => ?_⟩, fun x hx => hwz x (List.mem_of_mem_take hx)⟩
    obtain ⟨b, off, spot⟩ := a
    have hspot : spot = none := by simpa [Addr.add] using World.cell?_spot (hcell 0 (by omega))
    subst hspot
    refine ⟨b, off, rfl, cell_lt (hcell 0 (by omega)), fun j hj => ?_⟩
    have := hcell j (by omega)
    rw [add_plain] at this
    rw [this]
    simp [List.getD, show j < len by omega]
theorem trod_Int {P : Program} {t : TypeId} {k : IntKind} {v : Value} {y : DataW H × List MemPlace} {n : Nat} (ht : P.underlying t = some (.int k)) (h : DataW.trod enc P W 0 spare true n t [v] = some y) : ∃ x, v = .int k x ∧ (Lit.int k x).wf = true := by
  obtain ⟨x, hx, _, hw⟩ := DataW.trod_int ht h
  exact ⟨x, by simpa using hx, hw⟩
set_option maxRecDepth 100000 in
theorem open_Mat {v : Value} {d : DataW H} {ps : List MemPlace} (hval : Value.okWide Tryz.prog W .any base 26 v) (hd : DataW.Trod enc Tryz.prog W 0 spare true 26 v d ps) :
    ∃ (r c : Int) (u : Value) (xs : List Int), v = .agg #[.int .i64 r, .int .i64 c, u] ∧ (Lit.int .i64 r).wf = true ∧ (Lit.int .i64 c).wf = true ∧ Ints .u64 W u xs ∧ ∀ x ∈ xs, (Lit.int .u64 x).wf = true := by
  obtain ⟨v0, v1, v2, y0, y1, y2, n, rfl, _, _, h0, h1, h2⟩ := open_agg3 Tryz.underlying26 (by kernel_rfl) (by kernel_rfl) hval hd
  obtain ⟨r, rfl, hr⟩ := trod_Int Tryz.underlying3 h0
  obtain ⟨c, rfl, hc⟩ := trod_Int Tryz.underlying3 h1
  obtain ⟨xs, i, w⟩ := trod_Ints Tryz.underlying24 Tryz.underlying22 (by kernel_rfl) h2
  exact ⟨r, c, v2, xs, rfl, hr, hc, i, w⟩
end Go.Proofs.YthomeenmcajmdaaGreatDoor
namespace Go.Proofs.YthomeenmcajmdaaGreatDoor
open Go.RowKit Go.ChangeShapes Go.WideShapes Go.ChangeAt Go.Deep
section
variable {H : Type} {enc : TypeId × Value → H} {P : Program} {w : World} {base : Nat} {spare : Nat → Bool} {held : Bool}
end
end Go.Proofs.YthomeenmcajmdaaGreatDoor
namespace Go.Proofs.YthomeenmcajmdaaGreatDoor
open Go.RowKit Go.ChangeShapes Go.WideShapes Go.ChangeAt Go.Deep
set_option maxRecDepth 100000
theorem gTab : Tryz.prog.globalNamed "math/bits.deBruijn64tab" = some 2 := by kernel_rfl
theorem gTabType : (Tryz.prog.globals[2]?).map (·.type) = some 181 := by kernel_rfl
theorem cellsTab : Tryz.prog.cellsOf 181 = 64 := by kernel_rfl
theorem cellsU8 : Tryz.prog.cellsOf 5 = 1 := by kernel_rfl
theorem laid_tab {W : World} (h : laidMetH Tryz.prog [("math/bits.deBruijn64tab", Rows.laid_math_bits_deBruijn64tab)] W) : Tab W := by
  have e : (Rows.laid_math_bits_deBruijn64tab (H := Unit)) = Lib.tabData .u8 (Lib.deBruijn64tab.map (fun n : Nat => (n : Int))) := by kernel_rfl
  have h2 : laidMet Tryz.prog [("math/bits.deBruijn64tab", Lib.tabData .u8 (Lib.deBruijn64tab.map (fun n : Nat => (n : Int))))] W := by rw [← e]; exact h
  have t := Lib.tabIs_of_head (rest := []) gTab gTabType Tryz.underlying181 Tryz.underlying5 cellsU8 cellsTab h2
  intro j hj
  have := t.cell gTab j (by simp [Lib.deBruijn64tab]; exact hj)
  rw [this]
  have e2 : ∀ (l : List Nat) (j : Nat), j < l.length → (l.map (fun n : Nat => (n : Int))).getD j 0 = ((l.getD j 0 : Nat) : Int) := by
    intro l j h; simp [List.getD, h]
  rw [e2 _ j (by simp [Lib.deBruijn64tab]; exact hj)]
section
variable {H : Type} {enc : TypeId × Value → H} {W : World} {spare : Nat → Bool} {base0 : Nat}
end
theorem own : ownKnob Tryz.prog.godebug = none := by kernel_rfl
noncomputable def laidWorld (os : Os) : World :=
  { World.holding Tryz.prog os ⟨#[], #[], []⟩ with heap := (World.holding Tryz.prog os ⟨#[], #[], []⟩).heap.modify 2 fun
      | .cells _ t frozen => .cells (Lib.deBruijn64tab.map (fun n : Nat => Value.int .u8 (n : Int))).toArray t frozen
      | o => o }
end Go.Proofs.YthomeenmcajmdaaGreatDoor
