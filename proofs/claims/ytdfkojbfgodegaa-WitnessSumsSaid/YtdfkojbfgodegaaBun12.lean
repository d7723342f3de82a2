/- What the texts Mat7, Mx8, Mx9, MatS, MxM, MatT, MatOk, WitD show, in one text. -/
import Derived.Test.YtdfkojbfgodegaaBun10
import Derived.Test.YtdfkojbfgodegaaBun11
import Derived.Test.YtdfkojbfgodegaaBun07
/- Thin matrices: the document's own answer to: is one right; and the whole matrix of one. -/
namespace Go.Proofs.Ytdfkojbfgodegaa
open Go.RowKit Go.Maps

def SpIs (p r c : Int) (bs cs vs : List Int) : Prop := ∃ m n : Nat, r = m ∧ c = n ∧ SpOk p m n bs cs vs
/-- the number at row i, column c, as far as t numbers were looked at -/
def whF (bs cs vs : List Int) (i c : Nat) : Nat → Int
  | 0 => 0
  | t + 1 => if bs.getD i 0 ≤ t ∧ (t : Int) < bs.getD (i + 1) 0 ∧ cs.getD t 0 = c then vs.getD t 0 else whF bs cs vs i c t
theorem whF_before (bs cs vs : List Int) (i c : Nat) : ∀ t : Nat, (t : Int) ≤ bs.getD i 0 → whF bs cs vs i c t = 0
  | 0, _ => rfl
  | t + 1, h => by rw [whF, if_neg (by omega), whF_before bs cs vs i c t (by omega)]
theorem whF_behind (bs cs vs : List Int) (i c : Nat) {t : Nat} (h : bs.getD (i + 1) 0 ≤ t) : ∀ d : Nat, whF bs cs vs i c (t + d) = whF bs cs vs i c t
  | 0 => rfl
  | d + 1 => by
    show whF bs cs vs i c (t + d + 1) = _
    rw [whF, if_neg (by omega), whF_behind bs cs vs i c h d]
/-- the whole matrix's cell -/
def whAt (bs cs vs : List Int) (i c : Nat) : Int := whF bs cs vs i c cs.length

/-- three boxes, one behind the other -/
theorem boxes3 (w : World) (t t' : TypeId) (A B C : Array Value) :
    Blk (((w.alloc (.cells A t)).alloc (.cells B t')).alloc (.cells C t')) w.heap.size t A ∧ Blk (((w.alloc (.cells A t)).alloc (.cells B t')).alloc (.cells C t')) (w.heap.size + 1) t' B ∧
    Blk (((w.alloc (.cells A t)).alloc (.cells B t')).alloc (.cells C t')) (w.heap.size + 1 + 1) t' C ∧ Ext w (((w.alloc (.cells A t)).alloc (.cells B t')).alloc (.cells C t')) :=
  ⟨(Blk.new w t A).ext (((Ext.refl _).alloc _).alloc _), (Blk.at_ (by rw [alloc_size])).ext ((Ext.refl _).alloc _), Blk.at_ (by rw [alloc_size, alloc_size]), (((Ext.refl w).alloc _).alloc _).alloc _⟩
theorem Blk.at5 {w : World} {g : Nat} {t : TypeId} {a b c d e : Value} (h : Blk w g t #[a, b, c, d, e]) : w.cell? ⟨g, 0, none⟩ = some a ∧ w.cell? ⟨g, 1, none⟩ = some b ∧ w.cell? ⟨g, 2, none⟩ = some c ∧ w.cell? ⟨g, 3, none⟩ = some d ∧ w.cell? ⟨g, 4, none⟩ = some e :=
  ⟨h.cell 0, h.cell 1, h.cell 2, h.cell 3, h.cell 4⟩

end Go.Proofs.Ytdfkojbfgodegaa
/- Package matrix, thin matrices: what of the library they call; a row's columns and numbers; whether columns rise, whether rows begin right. -/
namespace Go.Proofs.Ytdfkojbfgodegaa
open Go.RowKit Go.Maps

/-- answers whether P, and only draws -/
def RetIffD (P : Prop) (w : World) (e : Ending) (w' : World) : Prop := ∃ b : Bool, e = .returned (.bool b) ∧ (b = true ↔ P) ∧ Drw w w'
/-- none less than the one ahead -/
def Sorted (xs : List Int) : Prop := ∀ j, j + 1 < xs.length → xs.getD j 0 ≤ xs.getD (j + 1) 0
/-! ### A row's piece -/
def seg (xs : List Int) (lo hi : Nat) : List Int := (xs.drop lo).take (hi - lo)
theorem seg_len {xs : List Int} {lo hi : Nat} (h : hi ≤ xs.length) : (seg xs lo hi).length = hi - lo := by simp [seg]; omega
theorem seg_get (xs : List Int) (lo hi k : Nat) (h : k < hi - lo) : (seg xs lo hi).getD k 0 = xs.getD (lo + k) 0 := sub_get xs lo _ k h
def segA (a : Option Addr) (lo cap : Nat) : Option Addr := if cap = lo then a else a.map (·.add lo)
theorem Ints.seg {k : IntKind} {w : World} {a : Option Addr} {m cap : Nat} {xs : List Int} (h : Ints k w (.slice a m cap) xs) (lo hi : Nat) (h1 : lo ≤ hi) (h2 : hi ≤ xs.length) :
    Ints k w (.slice (segA a lo cap) (hi - lo) (cap - lo)) (seg xs lo hi) := by
  obtain ⟨a', cap', e, l1, l2, l3⟩ := h
  injection e with e1 e2 e3
  subst e1; subst e3
  have hl := seg_len (lo := lo) h2
  refine ⟨_, cap - lo, by rw [hl], by omega, by omega, fun hp => ?_⟩
  rw [hl] at hp
  obtain ⟨b, off, rfl, hb, hc⟩ := l3 (by omega)
  refine ⟨b, off + lo, ?_, hb, fun j hj => ?_⟩
  · unfold segA
    rw [if_neg (by omega)]
    simp [Go.WideShapes.add_plain]
  · rw [hl] at hj
    rw [Nat.add_assoc, hc (lo + j) (by omega), seg_get xs lo hi j hj]
theorem seg_run {P : Program} {t : TypeId} (hu : P.underlying t = some (.slice (P.elem t))) (hs : ∀ w, ((sizeOf (P.elem t)).run P w) = .ok 1 w) (a : Option Addr) (len cap lo hi : Nat) (h1 : lo ≤ hi) (h2 : hi ≤ cap) (w : World) :
    (Instr.slice t (.slice a len cap) (some (.int .i64 (lo : Int))) (some (.int .i64 (hi : Int))) none).run P w = .ok (.slice (segA a lo cap) (hi - lo) (cap - lo)) w ∧
    (Instr.sliceAt t (.slice a len cap) (some (.int .i64 (lo : Int))) (some (.int .i64 (hi : Int))) none).run P w = .ok (.slice (segA a lo cap) (hi - lo) (cap - lo)) w := by
  have e : (Instr.slice t (.slice a len cap) (some (.int .i64 (lo : Int))) (some (.int .i64 (hi : Int))) none).run P w = .ok (.slice (segA a lo cap) (hi - lo) (cap - lo)) w := by
    rw [run_slice_lh w t _ len cap hu .i64 .i64 lo hi (by omega) (by omega) (by omega), hs]
    simp only [Result.andThen, sliced, Int.toNat_natCast, segA, Nat.mul_one]
  exact ⟨e, by rw [run_sliceAt_slice w t _ _ _ _ hu]; exact e⟩
/-- what line answers: pieces of what was there -/
def RetS (cs vs : List Int) (lo hi : Nat) (w0 w : World) (e : Ending) (w' : World) : Prop := ∃ vc vv, e = .returned (.tuple #[vc, vv]) ∧ Ints .i64 w0 vc (seg cs lo hi) ∧ Ints .u64 w0 vv (seg vs lo hi) ∧ Ext w w'
end Go.Proofs.Ytdfkojbfgodegaa
/- Package matrix, thin matrices: whether columns rise, whether rows begin right, SparseRight. -/
namespace Go.Proofs.Ytdfkojbfgodegaa
open Go.RowKit Go.Maps

theorem no_iff {P : Prop} (h : ¬ P) : false = true ↔ P := ⟨fun e => absurd e (by decide), fun e => absurd e h⟩
/-- each column is one, and greater than the one ahead -/
def Rise (n : Int) (l : List Int) : Prop := ∀ k, k < l.length → 0 ≤ l.getD k 0 ∧ l.getD k 0 < n ∧ (0 < k → l.getD (k - 1) 0 < l.getD k 0)
/-- answers whether P, the world as it is -/
def RetIffL (P : Prop) (w : World) (e : Ending) (w' : World) : Prop := ∃ b : Bool, e = .returned (.bool b) ∧ (b = true ↔ P) ∧ w = w'
/-- each row is a part of the columns and numbers, and all rows together are these -/
def BeginOk (m : Nat) (bs cs vs : List Int) : Prop := bs.length = m + 1 ∧ bs.getD 0 0 = 0 ∧ Sorted bs ∧ bs.getD m 0 = cs.length ∧ cs.length = vs.length
/-! ### What a right thin matrix is, in the code's own words -/
/-- where row i begins -/
def beg (bs : List Int) (i : Nat) : Nat := (bs.getD i 0).toNat
theorem BeginOk.mono {m : Nat} {bs cs vs : List Int} (h : BeginOk m bs cs vs) : ∀ i, i < m → bs.getD i 0 ≤ bs.getD (i + 1) 0 := fun i hi => h.2.2.1 i (by rw [h.1]; omega)
theorem beg_of {m : Nat} {bs cs : List Int} (h0 : bs.getD 0 0 = 0) (hm : bs.getD m 0 = cs.length) (mono : ∀ i, i < m → bs.getD i 0 ≤ bs.getD (i + 1) 0) {i : Nat} (hi : i ≤ m) : bs.getD i 0 = (beg bs i : Nat) ∧ beg bs i ≤ cs.length := by
  have h1 := mono_ge mono 0 i (Nat.zero_le _) hi
  have h2 := mono_ge mono i m hi (Nat.le_refl _)
  unfold beg
  omega
theorem beg_le {m : Nat} {bs : List Int} (mono : ∀ i, i < m → bs.getD i 0 ≤ bs.getD (i + 1) 0) {i : Nat} (hi : i < m) : beg bs i ≤ beg bs (i + 1) := by
  have := mono i hi
  unfold beg
  omega
/-- each number stands in some row -/
theorem row_of {m : Nat} {bs cs : List Int} (h0 : bs.getD 0 0 = 0) : ∀ (M k : Nat), (k : Int) < bs.getD M 0 → ∃ i, i < M ∧ bs.getD i 0 ≤ k ∧ (k : Int) < bs.getD (i + 1) 0
  | 0, k, h => by rw [h0] at h; omega
  | M + 1, k, h => by
    by_cases e : (k : Int) < bs.getD M 0
    · obtain ⟨i, h1, h2, h3⟩ := row_of (m := m) (cs := cs) h0 M k e
      exact ⟨i, by omega, h2, h3⟩
    · exact ⟨M, by omega, by omega, h⟩
theorem SpOk.begins {p : Int} {m n : Nat} {bs cs vs : List Int} (h : SpOk p m n bs cs vs) : BeginOk m bs cs vs := ⟨h.lb, h.b0, fun j hj => h.mono j (by have := h.lb; omega), h.bm, h.lc⟩
theorem SpOk.nozero {p : Int} {m n : Nat} {bs cs vs : List Int} (h : SpOk p m n bs cs vs) : (0 : Int) ∉ vs := fun h0 => by
  obtain ⟨k, hk, e⟩ := List.mem_iff_getElem.1 h0
  obtain ⟨i, h1, h2, h3⟩ := row_of (m := m) (cs := cs) h.b0 m k (by rw [h.bm, h.lc]; omega)
  exact (h.row i h1 k h2 h3).1 (by simp [List.getD, List.getElem?_eq_getElem hk, e])
theorem SpOk.rises {p : Int} {m n : Nat} {bs cs vs : List Int} (h : SpOk p m n bs cs vs) {i : Nat} (hi : i < m) : Rise n (seg cs (beg bs i) (beg bs (i + 1))) := by
  obtain ⟨e1, l1⟩ := beg_of h.b0 h.bm h.mono (show i ≤ m by omega)
  obtain ⟨e2, l2⟩ := beg_of h.b0 h.bm h.mono (show i + 1 ≤ m by omega)
  intro k hk
  rw [seg_len l2] at hk
  have := h.row i hi (beg bs i + k) (by omega) (by omega)
  obtain ⟨c1, c2, c3, c4⟩ := this
  rw [seg_get _ _ _ _ hk]
  refine ⟨c2, c3, fun h0 => ?_⟩
  rw [seg_get _ _ _ _ (by omega)]
  have := c4 (by omega)
  rwa [show beg bs i + k - 1 = beg bs i + (k - 1) by omega] at this
theorem SpOk.of {p : Int} {m n : Nat} {bs cs vs : List Int} (hm : 1 ≤ m ∧ m ≤ 64) (hn : 1 ≤ n ∧ n ≤ 64) (hb : BeginOk m bs cs vs) (hv : hasB p vs = true) (h0 : (0 : Int) ∉ vs) (hr : ∀ i, i < m → Rise n (seg cs (beg bs i) (beg bs (i + 1)))) : SpOk p m n bs cs vs where
  m1 := hm
  n1 := hn
  lb := hb.1
  lc := hb.2.2.2.2
  hv := hv
  b0 := hb.2.1
  bm := hb.2.2.2.1
  mono := hb.mono
  row := fun i hi k h1 h2 => by
    obtain ⟨e1, l1⟩ := beg_of hb.2.1 hb.2.2.2.1 hb.mono (show i ≤ m by omega)
    obtain ⟨e2, l2⟩ := beg_of hb.2.1 hb.2.2.2.1 hb.mono (show i + 1 ≤ m by omega)
    obtain ⟨t, rfl⟩ : ∃ t, k = beg bs i + t := ⟨k - beg bs i, by omega⟩
    have ht : t < beg bs (i + 1) - beg bs i := by omega
    have hk : beg bs i + t < vs.length := by rw [← hb.2.2.2.2]; omega
    obtain ⟨c1, c2, c3⟩ := hr i hi t (by rw [seg_len l2]; exact ht)
    rw [seg_get _ _ _ _ ht] at c1 c2 c3
    refine ⟨fun e => h0 (by rw [← e]; exact getD_mem 0 hk), c1, c2, fun h => ?_⟩
    have := c3 (by omega)
    rw [seg_get _ _ _ _ (by omega)] at this
    rwa [show beg bs i + t - 1 = beg bs i + (t - 1) by omega]
end Go.Proofs.Ytdfkojbfgodegaa
/- Thin matrices: the one of a whole matrix, and that there is no other (in plain Lean; nothing of a program). -/
namespace Go.Proofs.Ytdfkojbfgodegaa
variable {p : Int}

/-- what is met at row i and column c, once -/
theorem whF_hit {bs cs vs : List Int} {i c k0 : Nat} (h1 : bs.getD i 0 ≤ k0) (h2 : (k0 : Int) < bs.getD (i + 1) 0) (h3 : cs.getD k0 0 = c) (hu : ∀ k : Nat, bs.getD i 0 ≤ k → (k : Int) < bs.getD (i + 1) 0 → cs.getD k 0 = c → k = k0) :
    ∀ N : Nat, k0 < N → whF bs cs vs i c N = vs.getD k0 0
  | 0, h => absurd h (Nat.not_lt_zero _)
  | N + 1, h => by
    rw [whF]
    by_cases e : bs.getD i 0 ≤ N ∧ (N : Int) < bs.getD (i + 1) 0 ∧ cs.getD N 0 = c
    · rw [if_pos e, hu N e.1 e.2.1 e.2.2]
    · rw [if_neg e]
      have hne : k0 ≠ N := fun e2 => e ⟨by rw [← e2]; exact h1, by rw [← e2]; exact h2, by rw [← e2]; exact h3⟩
      exact whF_hit h1 h2 h3 hu N (by omega)
theorem whF_miss {bs cs vs : List Int} {i c : Nat} (hu : ∀ k : Nat, bs.getD i 0 ≤ k → (k : Int) < bs.getD (i + 1) 0 → cs.getD k 0 ≠ c) : ∀ N : Nat, whF bs cs vs i c N = 0
  | 0 => rfl
  | N + 1 => by
    rw [whF, if_neg fun e => hu N e.1 e.2.1 e.2.2]
    exact whF_miss hu N
/-- the numbers that aren't 0, among the first t; and their columns -/
def thV (xs : List Int) : Nat → List Int
  | 0 => []
  | t + 1 => if xs.getD t 0 = 0 then thV xs t else thV xs t ++ [xs.getD t 0]
def thC (xs : List Int) (n : Nat) : Nat → List Int
  | 0 => []
  | t + 1 => if xs.getD t 0 = 0 then thC xs n t else thC xs n t ++ [((t % n : Nat) : Int)]
theorem thC_len (xs : List Int) (n : Nat) : ∀ t, (thC xs n t).length = (thV xs t).length
  | 0 => rfl
  | t + 1 => by
    rw [thC, thV]
    split
    · exact thC_len xs n t
    · rw [List.length_append, List.length_append, thC_len xs n t]; rfl
/-- in a right thin matrix columns rise -/
theorem SpOk.rise {m n : Nat} {bs cs vs : List Int} (h : SpOk p m n bs cs vs) {i : Nat} (hi : i < m) {k : Nat} (hk : bs.getD i 0 ≤ k) : ∀ d : Nat, ((k + d + 1 : Nat) : Int) < bs.getD (i + 1) 0 → cs.getD k 0 < cs.getD (k + d + 1) 0
  | 0, hd => by
    have := (h.row i hi (k + 1) (by omega) hd).2.2.2 (by omega)
    rw [show k + 1 - 1 = k by omega] at this
    exact this
  | d + 1, hd => by
    have h1 := h.rise hi hk d (by omega)
    have h2 := (h.row i hi (k + d + 2) (by omega) hd).2.2.2 (by omega)
    rw [show k + d + 2 - 1 = k + d + 1 by omega] at h2
    exact Int.lt_trans h1 h2
theorem SpOk.once {m n : Nat} {bs cs vs : List Int} (h : SpOk p m n bs cs vs) {i : Nat} (hi : i < m) {k k' : Nat} (h1 : bs.getD i 0 ≤ k) (h2 : (k : Int) < bs.getD (i + 1) 0) (h3 : bs.getD i 0 ≤ k') (h4 : (k' : Int) < bs.getD (i + 1) 0) (e : cs.getD k 0 = cs.getD k' 0) : k = k' := by
  rcases Nat.lt_trichotomy k k' with hlt | heq | hgt
  · have := h.rise hi h1 (k' - k - 1) (by rw [show k + (k' - k - 1) + 1 = k' by omega]; exact h4)
    rw [show k + (k' - k - 1) + 1 = k' by omega] at this
    omega
  · exact heq
  · have := h.rise hi h3 (k - k' - 1) (by rw [show k' + (k - k' - 1) + 1 = k by omega]; exact h2)
    rw [show k' + (k - k' - 1) + 1 = k by omega] at this
    omega
/-- the scan of a right thin matrix's whole one, up to row i and column c -/
structure Scan (bs cs vs xs : List Int) (n i c K : Nat) : Prop where
  lo : bs.getD i 0 ≤ K
  hi : (K : Int) ≤ bs.getD (i + 1) 0
  be : ∀ k : Nat, bs.getD i 0 ≤ k → k < K → cs.getD k 0 < c
  af : ∀ k : Nat, K ≤ k → (k : Int) < bs.getD (i + 1) 0 → (c : Int) ≤ cs.getD k 0
  v : thV xs (i * n + c) = vs.take K
  c_ : thC xs n (i * n + c) = cs.take K
theorem Scan.step {m n : Nat} {bs cs vs xs : List Int} {i c K : Nat} (ok : SpOk p m n bs cs vs) (hx : ∀ i c, i < m → c < n → xs.getD (i * n + c) 0 = whAt bs cs vs i c) (hi : i < m) (hc : c < n) (h : Scan bs cs vs xs n i c K) : ∃ K', Scan bs cs vs xs n i (c + 1) K' := by
  have hble := mono_ge ok.mono (i + 1) m (by omega) (Nat.le_refl _)
  rw [ok.bm] at hble
  have hxc := hx i c hi hc
  by_cases e : (K : Int) < bs.getD (i + 1) 0 ∧ cs.getD K 0 = c
  · have hcell := ok.row i hi K h.lo e.1
    have hw : whAt bs cs vs i c = vs.getD K 0 := whF_hit h.lo e.1 e.2 (fun k h1 h2 h3 => ok.once hi h1 h2 h.lo e.1 (by rw [h3, e.2])) cs.length (by omega)
    have hKl : K < vs.length := by rw [← ok.lc]; omega
    refine ⟨K + 1, ⟨by have := h.lo; omega, by omega, fun k h1 h2 => ?_, fun k h1 h2 => ?_, ?_, ?_⟩⟩
    · by_cases ek : k = K
      · rw [ek, e.2]; omega
      · have := h.be k h1 (by omega); omega
    · have := ok.rise hi h.lo (k - K - 1) (by rw [show K + (k - K - 1) + 1 = k by omega]; exact h2)
      rw [show K + (k - K - 1) + 1 = k by omega, e.2] at this
      omega
    · rw [show i * n + (c + 1) = i * n + c + 1 by omega, thV, hxc, hw, if_neg hcell.1, h.v, take_snoc vs K hKl]
    · rw [show i * n + (c + 1) = i * n + c + 1 by omega, thC, hxc, hw, if_neg hcell.1, h.c_, take_snoc cs K (by omega), at_mod hc, e.2]
  · have hw : whAt bs cs vs i c = 0 := whF_miss (fun k h1 h2 h3 => by
      rcases Nat.lt_or_ge k K with hk | hk
      · have := h.be k h1 hk; omega
      · by_cases ek : k = K
        · exact e ⟨by rw [← ek]; exact h2, by rw [← ek]; exact h3⟩
        · have h4 := h.af K (Nat.le_refl _) (by omega)
          have h5 := ok.rise hi h.lo (k - K - 1) (by rw [show K + (k - K - 1) + 1 = k by omega]; exact h2)
          rw [show K + (k - K - 1) + 1 = k by omega] at h5
          omega) _
    refine ⟨K, ⟨h.lo, h.hi, fun k h1 h2 => by have := h.be k h1 h2; omega, fun k h1 h2 => ?_, ?_, ?_⟩⟩
    · by_cases ek : k = K
      · have h4 := h.af k h1 h2
        have : cs.getD k 0 ≠ c := fun h3 => e ⟨by rw [← ek]; exact h2, by rw [← ek]; exact h3⟩
        omega
      · have h4 := h.af K (Nat.le_refl _) (by omega)
        have h5 := ok.rise hi h.lo (k - K - 1) (by rw [show K + (k - K - 1) + 1 = k by omega]; exact h2)
        rw [show K + (k - K - 1) + 1 = k by omega] at h5
        omega
    · rw [show i * n + (c + 1) = i * n + c + 1 by omega, thV, hxc, hw, if_pos rfl, h.v]
    · rw [show i * n + (c + 1) = i * n + c + 1 by omega, thC, hxc, hw, if_pos rfl, h.c_]
/-- a right thin matrix is the one of its whole matrix -/
theorem thin_unique {m n : Nat} {bs cs vs xs : List Int} (ok : SpOk p m n bs cs vs) (hx : ∀ i c, i < m → c < n → xs.getD (i * n + c) 0 = whAt bs cs vs i c) :
    (∀ i, i ≤ m → bs.getD i 0 = (thV xs (i * n)).length ∧ thV xs (i * n) = vs.take (bs.getD i 0).toNat ∧ thC xs n (i * n) = cs.take (bs.getD i 0).toNat) := by
  intro i
  induction i with
  | zero =>
    intro _
    rw [ok.b0, Nat.zero_mul]
    exact ⟨rfl, rfl, rfl⟩
  | succ i ih =>
    intro hi
    obtain ⟨h1, h2, h3⟩ := ih (by omega)
    have hm := ok.mono i (by omega)
    have hb0 := mono_ge ok.mono 0 i (Nat.zero_le _) (by omega)
    rw [ok.b0] at hb0
    have start : Scan bs cs vs xs n i 0 (bs.getD i 0).toNat := ⟨by omega, by omega, fun k a b => by omega, fun k a b => (ok.row i (by omega) k (by omega) b).2.1, by rw [Nat.add_zero]; exact h2, by rw [Nat.add_zero]; exact h3⟩
    have all : ∀ c, c ≤ n → ∃ K, Scan bs cs vs xs n i c K := by
      intro c
      induction c with
      | zero => intro _; exact ⟨_, start⟩
      | succ c ihc =>
        intro hc
        obtain ⟨K, hK⟩ := ihc (by omega)
        exact hK.step ok hx (by omega) (by omega)
    obtain ⟨K, hK⟩ := all n (Nat.le_refl _)
    have hKe : (K : Int) = bs.getD (i + 1) 0 := by
      have h4 := hK.hi
      rcases Int.lt_or_eq_of_le h4 with h5 | h5
      · have h6 := hK.af K (Nat.le_refl _) h5
        have h7 := (ok.row i (by omega) K hK.lo h5).2.2.1
        omega
      · exact h5
    have hble := mono_ge ok.mono (i + 1) m (by omega) (Nat.le_refl _)
    rw [ok.bm, ok.lc] at hble
    have hv := hK.v
    have hc := hK.c_
    rw [← Nat.succ_mul] at hv hc
    refine ⟨?_, by rw [← hKe]; exact hv, by rw [← hKe]; exact hc⟩
    rw [hv, List.length_take, ← hKe]
    omega
end Go.Proofs.Ytdfkojbfgodegaa
/- Thin matrices: sums over a row's numbers (in plain Lean; nothing of a program). -/
namespace Go.Proofs.Ytdfkojbfgodegaa
variable {p : Int}

theorem whF_none {bs cs vs : List Int} {i c : Nat} : ∀ N : Nat, (∀ k : Nat, k < N → bs.getD i 0 ≤ k → (k : Int) < bs.getD (i + 1) 0 → cs.getD k 0 ≠ c) → whF bs cs vs i c N = 0
  | 0, _ => rfl
  | N + 1, h => by
    rw [whF, if_neg fun e => h N (Nat.lt_succ_self _) e.1 e.2.1 e.2.2]
    exact whF_none N fun k hk => h k (by omega)
theorem SpOk.bg {m n : Nat} {bs cs vs : List Int} (ok : SpOk p m n bs cs vs) {i : Nat} (hi : i ≤ m) : bs.getD i 0 = (beg bs i : Nat) ∧ beg bs i ≤ cs.length := beg_of ok.b0 ok.bm ok.mono hi
theorem SpOk.ble {m n : Nat} {bs cs vs : List Int} (ok : SpOk p m n bs cs vs) {i : Nat} (hi : i < m) : beg bs i ≤ beg bs (i + 1) := beg_le ok.mono hi
theorem wh_step {m n : Nat} {bs cs vs : List Int} (ok : SpOk p m n bs cs vs) {i t : Nat} (hi : i < m) (ht : beg bs i + t < beg bs (i + 1)) (c : Nat) :
    whF bs cs vs i c (beg bs i + t + 1) = if cs.getD (beg bs i + t) 0 = c then vs.getD (beg bs i + t) 0 else whF bs cs vs i c (beg bs i + t) := by
  have e1 := (ok.bg (show i ≤ m by omega)).1
  have e2 := (ok.bg (show i + 1 ≤ m by omega)).1
  rw [whF]
  by_cases e : cs.getD (beg bs i + t) 0 = c
  · rw [if_pos e, if_pos ⟨by omega, by omega, e⟩]
  · rw [if_neg e, if_neg fun h => e h.2.2]
theorem wh_fresh {m n : Nat} {bs cs vs : List Int} (ok : SpOk p m n bs cs vs) {i t : Nat} (hi : i < m) (ht : beg bs i + t < beg bs (i + 1)) {c : Nat} (e : cs.getD (beg bs i + t) 0 = c) : whF bs cs vs i c (beg bs i + t) = 0 := by
  have e1 := (ok.bg (show i ≤ m by omega)).1
  have e2 := (ok.bg (show i + 1 ≤ m by omega)).1
  refine whF_none _ fun k hk h1 h2 h3 => ?_
  have := ok.once hi h1 h2 (k' := beg bs i + t) (by omega) (by omega) (by rw [h3, e])
  omega
theorem wh_start {m n : Nat} {bs cs vs : List Int} (ok : SpOk p m n bs cs vs) {i : Nat} (hi : i < m) (c : Nat) : whF bs cs vs i c (beg bs i) = 0 :=
  whF_before bs cs vs i c _ (by have e1 := (ok.bg (show i ≤ m by omega)).1; omega)
theorem wh_end {m n : Nat} {bs cs vs : List Int} (ok : SpOk p m n bs cs vs) {i : Nat} (hi : i < m) (c : Nat) : whF bs cs vs i c (beg bs (i + 1)) = whAt bs cs vs i c := by
  obtain ⟨e2, l2⟩ := ok.bg (show i + 1 ≤ m by omega)
  have := whF_behind bs cs vs i c (t := beg bs (i + 1)) (by omega) (cs.length - beg bs (i + 1))
  rw [Nat.add_sub_cancel' l2] at this
  exact this.symm
/-- the column of a number -/
theorem SpOk.col {m n : Nat} {bs cs vs : List Int} (ok : SpOk p m n bs cs vs) {i t : Nat} (hi : i < m) (ht : beg bs i + t < beg bs (i + 1)) : ∃ e : Nat, cs.getD (beg bs i + t) 0 = e ∧ e < n := by
  have e1 := (ok.bg (show i ≤ m by omega)).1
  have e2 := (ok.bg (show i + 1 ≤ m by omega)).1
  obtain ⟨_, c2, c3, _⟩ := ok.row i hi (beg bs i + t) (by omega) (by omega)
  exact ⟨(cs.getD (beg bs i + t) 0).toNat, by omega, by omega⟩
/-- a row's sum, over its columns or over its numbers -/
theorem row_sum {m n : Nat} {bs cs vs : List Int} (ok : SpOk p m n bs cs vs) {i : Nat} (hi : i < m) (y : Nat → Int) : ∀ t : Nat, beg bs i + t ≤ beg bs (i + 1) →
    (sm n fun c => whF bs cs vs i c (beg bs i + t) * y c) = sm t fun s => vs.getD (beg bs i + s) 0 * y (cs.getD (beg bs i + s) 0).toNat
  | 0, _ => by
    show _ = 0
    exact sm_zero fun c _ => by rw [Nat.add_zero, wh_start ok hi, Int.zero_mul]
  | t + 1, h => by
    obtain ⟨e, he, hen⟩ := ok.col hi (t := t) (by omega)
    show _ = (sm t fun s => vs.getD (beg bs i + s) 0 * y (cs.getD (beg bs i + s) 0).toNat) + vs.getD (beg bs i + t) 0 * y (cs.getD (beg bs i + t) 0).toNat
    rw [← row_sum ok hi y t (by omega), he, Int.toNat_natCast, ← sm_single (fun _ => vs.getD (beg bs i + t) 0 * y e) hen, ← sm_add]
    refine sm_congr fun c _ => ?_
    rw [← Nat.add_assoc, wh_step ok hi (by omega) c, he]
    by_cases ec : c = e
    · subst ec
      rw [if_pos rfl, if_pos rfl, wh_fresh ok hi (by omega) he, Int.zero_mul, Int.zero_add]
    · rw [if_neg (by omega), if_neg ec, Int.add_zero]
/-- a right thin matrix, whole -/
def wholeL (m n : Nat) (bs cs vs : List Int) : List Int := grid m n (whAt bs cs vs)
theorem wh_rng {m n : Nat} {bs cs vs : List Int} (hp : 2 ≤ p) (hv : Rng p vs) (i c : Nat) : ∀ N : Nat, 0 ≤ whF bs cs vs i c N ∧ whF bs cs vs i c N < p
  | 0 => ⟨Int.le_refl _, by show (0 : Int) < p; omega⟩
  | N + 1 => by
    rw [whF]
    split
    · exact hv.getD hp _
    · exact wh_rng (m := m) (n := n) hp hv i c N
/-- the row's dot product -/
theorem dot_row {m n : Nat} {bs cs vs ys met : List Int} (ok : SpOk p m n bs cs vs) {i : Nat} (hi : i < m) (hm : met.length = beg bs (i + 1) - beg bs i) (hmet : ∀ k, k < met.length → met.getD k 0 = ys.getD (cs.getD (beg bs i + k) 0).toNat 0) :
    dotZ (seg vs (beg bs i) (beg bs (i + 1))) met % p = dv p n (fun c => (wholeL m n bs cs vs).getD (i * n + c) 0) fun c => ys.getD c 0 := by
  have hble := ok.ble hi
  obtain ⟨_, l2⟩ := ok.bg (show i + 1 ≤ m by omega)
  have hl : (seg vs (beg bs i) (beg bs (i + 1))).length = met.length := by rw [seg_len (by rw [← ok.lc]; exact l2), hm]
  rw [dotZ_sm _ _ hl, hl, hm]
  unfold dv
  have e := row_sum ok hi (fun c => ys.getD c 0) (beg bs (i + 1) - beg bs i) (by omega)
  rw [Nat.add_sub_cancel' hble] at e
  rw [sm_congr (g := fun c => whF bs cs vs i c (beg bs (i + 1)) * ys.getD c 0) (n := n) fun c hc => by
    show (grid m n (whAt bs cs vs)).getD (i * n + c) 0 * ys.getD c 0 = _
    rw [grid_get _ hi hc, wh_end ok hi], e]
  congr 1
  refine sm_congr fun s hs => ?_
  rw [seg_get _ _ _ _ hs, hmet s (by rw [hm]; exact hs)]
end Go.Proofs.Ytdfkojbfgodegaa
/- Thin matrices: each right whole matrix has one (in plain Lean; nothing of a program). -/
namespace Go.Proofs.Ytdfkojbfgodegaa
variable {p : Int}

/-- how many of the first t numbers aren't 0 -/
def nz (xs : List Int) (t : Nat) : Nat := (thV xs t).length
theorem nz_zero (xs : List Int) : nz xs 0 = 0 := rfl
theorem nz_succ (xs : List Int) (t : Nat) : nz xs (t + 1) = if xs.getD t 0 = 0 then nz xs t else nz xs t + 1 := by
  unfold nz; rw [thV]; split
  · rfl
  · rw [List.length_append]; rfl
theorem nz_le (xs : List Int) (s : Nat) : ∀ d, nz xs s ≤ nz xs (s + d)
  | 0 => Nat.le_refl _
  | d + 1 => by
    have := nz_le xs s d
    rw [← Nat.add_assoc, nz_succ]
    split <;> omega
theorem nz_mono (xs : List Int) {s t : Nat} (h : s ≤ t) : nz xs s ≤ nz xs t := by
  have := nz_le xs s (t - s)
  rwa [Nat.add_sub_cancel' h] at this
theorem nz_lt (xs : List Int) {s t : Nat} (h : s < t) (hx : xs.getD s 0 ≠ 0) : nz xs s < nz xs t := by
  have := nz_mono xs (show s + 1 ≤ t from h)
  rw [nz_succ, if_neg hx] at this
  omega
/-- the number behind the k-th that isn't 0 -/
theorem thV_at (xs : List Int) (n : Nat) : ∀ (t s : Nat), s < t → xs.getD s 0 ≠ 0 → (thV xs t).getD (nz xs s) 0 = xs.getD s 0 ∧ (thC xs n t).getD (nz xs s) 0 = ((s % n : Nat) : Int)
  | 0, s, h, _ => absurd h (Nat.not_lt_zero _)
  | t + 1, s, h, hx => by
    have hl := thC_len xs n t
    rw [thV, thC]
    by_cases e : s = t
    · subst e
      rw [if_neg hx, if_neg hx]
      constructor
      · simp [List.getD, nz]
      · unfold nz; rw [← hl]; simp [List.getD]
    · have ih := thV_at xs n t s (by omega) hx
      split
      · exact ih
      · have h1 : nz xs s < (thV xs t).length := nz_lt xs (show s < t by omega) hx
        constructor
        · rw [← ih.1]; simp [List.getD, List.getElem?_append_left h1]
        · rw [← ih.2]; simp [List.getD, List.getElem?_append_left (hl ▸ h1)]
theorem nz_find (xs : List Int) : ∀ (t k : Nat), k < nz xs t → ∃ s, s < t ∧ xs.getD s 0 ≠ 0 ∧ nz xs s = k
  | 0, k, h => absurd h (Nat.not_lt_zero _)
  | t + 1, k, h => by
    rw [nz_succ] at h
    by_cases e : xs.getD t 0 = 0
    · rw [if_pos e] at h
      obtain ⟨s, h1, h2, h3⟩ := nz_find xs t k h
      exact ⟨s, by omega, h2, h3⟩
    · rw [if_neg e] at h
      by_cases ek : k = nz xs t
      · exact ⟨t, by omega, e, ek.symm⟩
      · obtain ⟨s, h1, h2, h3⟩ := nz_find xs t k (by omega)
        exact ⟨s, by omega, h2, h3⟩
theorem thV_mem (xs : List Int) : ∀ (t : Nat), t ≤ xs.length → ∀ x ∈ thV xs t, x ∈ xs
  | 0, _, x, h => by cases h
  | t + 1, ht, x, h => by
    rw [thV] at h
    split at h
    · exact thV_mem xs t (by omega) x h
    · rcases List.mem_append.1 h with h | h
      · exact thV_mem xs t (by omega) x h
      · rw [List.mem_singleton] at h
        subst h
        have e : xs.getD t 0 = xs[t] := by simp [List.getD, List.getElem?_eq_getElem (show t < xs.length by omega)]
        rw [e]; exact List.getElem_mem _
theorem nz_len (xs : List Int) (t : Nat) : nz xs t ≤ t := by
  induction t with
  | zero => exact Nat.le_refl _
  | succ t ih => rw [nz_succ]; split <;> omega
/-- where the rows begin -/
def thB (xs : List Int) (m n : Nat) : List Int := tab (m + 1) fun i => (nz xs (i * n) : Int)
theorem thB_get (xs : List Int) {m n i : Nat} (h : i ≤ m) : (thB xs m n).getD i 0 = nz xs (i * n) := tab_get _ (by omega)
/-- position k of row i stands for a place of that row -/
theorem row_find (xs : List Int) {n i k : Nat} (h1 : nz xs (i * n) ≤ k) (h2 : k < nz xs ((i + 1) * n)) : ∃ c, c < n ∧ xs.getD (i * n + c) 0 ≠ 0 ∧ nz xs (i * n + c) = k := by
  obtain ⟨s, hs, hx, hk⟩ := nz_find xs _ k h2
  rw [Nat.succ_mul] at hs
  have hge : i * n ≤ s := by
    rcases Nat.lt_or_ge s (i * n) with h | h
    · have := nz_lt xs h hx; omega
    · exact h
  exact ⟨s - i * n, by omega, by rw [Nat.add_sub_cancel' hge]; exact hx, by rw [Nat.add_sub_cancel' hge]; exact hk⟩
theorem thin_ok {m n : Nat} {xs : List Int} (hm : 1 ≤ m ∧ m ≤ 64) (hn : 1 ≤ n ∧ n ≤ 64) (hl : xs.length = m * n) (hx : hasB p xs = true) : SpOk p m n (thB xs m n) (thC xs n (m * n)) (thV xs (m * n)) where
  m1 := hm
  n1 := hn
  lb := tab_len _ _
  lc := thC_len _ _ _
  hv := hasB_sub hx fun y hy => thV_mem xs _ (by omega) y hy
  b0 := by rw [thB_get xs (Nat.zero_le _), Nat.zero_mul]; rfl
  bm := by rw [thB_get xs (Nat.le_refl _), thC_len]; rfl
  mono := fun i hi => by
    rw [thB_get xs (by omega), thB_get xs (by omega)]
    have := nz_mono xs (show i * n ≤ (i + 1) * n from Nat.mul_le_mul_right _ (by omega))
    omega
  row := fun i hi k h1 h2 => by
    rw [thB_get xs (by omega)] at h1
    rw [thB_get xs (by omega)] at h2
    obtain ⟨c, hc, hc0, hk⟩ := row_find xs (by omega) (show k < nz xs ((i + 1) * n) by omega)
    obtain ⟨e1, e2⟩ := thV_at xs n (m * n) (i * n + c) (at_lt hi hc) hc0
    rw [hk] at e1 e2
    rw [at_mod hc] at e2
    refine ⟨by rw [e1]; exact hc0, by rw [e2]; omega, by rw [e2]; omega, fun hb => ?_⟩
    rw [thB_get xs (by omega)] at hb
    obtain ⟨c', hc', hc0', hk'⟩ := row_find xs (n := n) (i := i) (k := k - 1) (by omega) (by omega)
    obtain ⟨_, e2'⟩ := thV_at xs n (m * n) (i * n + c') (at_lt hi hc') hc0'
    rw [hk', at_mod hc'] at e2'
    rw [e2, e2']
    rcases Nat.lt_or_ge c' c with h | h
    · omega
    · have := nz_mono xs (show i * n + c ≤ i * n + c' by omega)
      omega
theorem thin_whole {m n : Nat} {xs : List Int} (hm : 1 ≤ m ∧ m ≤ 64) (hn : 1 ≤ n ∧ n ≤ 64) (hl : xs.length = m * n) (hx : hasB p xs = true) {i c : Nat} (hi : i < m) (hc : c < n) : xs.getD (i * n + c) 0 = whAt (thB xs m n) (thC xs n (m * n)) (thV xs (m * n)) i c := by
  have ok := thin_ok (p := p) hm hn hl hx
  by_cases e : xs.getD (i * n + c) 0 = 0
  · rw [e]
    refine (whF_miss (fun k h1 h2 h3 => ?_) _).symm
    rw [thB_get xs (by omega)] at h1
    rw [thB_get xs (by omega)] at h2
    obtain ⟨c', hc', hc0', hk'⟩ := row_find xs (n := n) (i := i) (k := k) (by omega) (by omega)
    obtain ⟨_, e2⟩ := thV_at xs n (m * n) (i * n + c') (at_lt hi hc') hc0'
    rw [hk', at_mod hc', h3] at e2
    obtain rfl : c = c' := by omega
    exact hc0' e
  · obtain ⟨e1, e2⟩ := thV_at xs n (m * n) (i * n + c) (at_lt hi hc) e
    rw [at_mod hc] at e2
    have h1 : (thB xs m n).getD i 0 ≤ (nz xs (i * n + c) : Int) := by
      rw [thB_get xs (by omega)]
      have := nz_mono xs (show i * n ≤ i * n + c by omega)
      omega
    have h2 : (nz xs (i * n + c) : Int) < (thB xs m n).getD (i + 1) 0 := by
      rw [thB_get xs (by omega)]
      have := nz_lt xs (show i * n + c < (i + 1) * n by rw [Nat.succ_mul]; omega) e
      omega
    have hN : nz xs (i * n + c) < (thC xs n (m * n)).length := by
      rw [thC_len]; exact nz_lt xs (at_lt hi hc) e
    exact (e1.symm.trans (whF_hit h1 h2 e2 (fun k h3 h4 h5 => ok.once hi h3 h4 h1 h2 (by rw [h5, e2])) _ hN).symm)
/-- each right thin matrix is the thin form of its whole one -/
theorem thin_eq {m n : Nat} {bs cs vs xs : List Int} (ok : SpOk p m n bs cs vs) (hx : ∀ i c, i < m → c < n → xs.getD (i * n + c) 0 = whAt bs cs vs i c) : bs = thB xs m n ∧ cs = thC xs n (m * n) ∧ vs = thV xs (m * n) := by
  have h := thin_unique ok hx
  obtain ⟨_, h2, h3⟩ := h m (Nat.le_refl _)
  rw [ok.bm] at h2 h3
  refine ⟨?_, ?_, ?_⟩
  · refine list_ext (by rw [ok.lb]; exact (tab_len _ _).symm) fun k hk => ?_
    rw [ok.lb] at hk
    rw [thB_get xs (by omega)]
    exact (h k (by omega)).1
  · rw [h3]; simp
  · rw [h2, Int.toNat_natCast, ok.lc]; simp
/-- and the whole one is right -/
theorem whole_eq {m n : Nat} {xs : List Int} (hm : 1 ≤ m ∧ m ≤ 64) (hn : 1 ≤ n ∧ n ≤ 64) (hl : xs.length = m * n) (hx : hasB p xs = true) : grid m n (whAt (thB xs m n) (thC xs n (m * n)) (thV xs (m * n))) = xs := by
  refine list_ext (by rw [hl]; exact tab_len _ _) fun k hk => ?_
  have hk' : k < m * n := by rw [show (grid m n (whAt (thB xs m n) (thC xs n (m * n)) (thV xs (m * n)))).length = m * n from tab_len _ _] at hk; exact hk
  have h0 : 0 < n := by omega
  have hd : k / n < m := (Nat.div_lt_iff_lt_mul h0).2 hk'
  have hr : k % n < n := Nat.mod_lt _ h0
  have e := thin_whole (p := p) hm hn hl hx hd hr
  rw [Nat.div_add_mod' k n] at e
  rw [e]
  exact tab_get _ hk'
end Go.Proofs.Ytdfkojbfgodegaa
/- What is right stays right: products, thin forms (in plain Lean; nothing of a program). -/
namespace Go.Proofs.Ytdfkojbfgodegaa
variable {p : Int}
theorem MatOk.mul {m n q : Nat} {xs ys : List Int} (h : MatOk p m n xs) (k : MatOk p n q ys) : MatOk p m q (mulL p m n q xs ys) :=
  ⟨h.hp, mulL_rng (rightB_true h.hp).1 _ _ _ _ _, h.hm, k.hn, mulL_len _ _ _ _ _⟩
theorem spOk_of {m n : Nat} {xs : List Int} (h : MatOk p m n xs) : SpOk p m n (thB xs m n) (thC xs n (m * n)) (thV xs (m * n)) := thin_ok h.hm h.hn h.hl (h.hx.has h.hp)
theorem whole_of {m n : Nat} {xs : List Int} (h : MatOk p m n xs) : wholeL m n (thB xs m n) (thC xs n (m * n)) (thV xs (m * n)) = xs := whole_eq h.hm h.hn h.hl (h.hx.has h.hp)
theorem thV_rng {m n : Nat} {xs : List Int} (h : MatOk p m n xs) : Rng p (thV xs (m * n)) := fun x hx => h.hx x (thV_mem xs _ (by rw [h.hl]; exact Nat.le_refl _) x hx)
theorem MatOk.oneR {m n : Nat} {xs : List Int} (h : MatOk p m n xs) : MatOk p m m (oneL m) := ⟨h.hp, oneL_rng (rightB_true h.hp).1 m, h.hm, h.hm, oneL_len m⟩
theorem MatOk.oneC {m n : Nat} {xs : List Int} (h : MatOk p m n xs) : MatOk p n n (oneL n) := ⟨h.hp, oneL_rng (rightB_true h.hp).1 n, h.hn, h.hn, oneL_len n⟩
theorem rng_of {xs : List Int} (h : U64s xs) (k : hasB p xs = true) : Rng p xs := fun x hx => ⟨(h x hx).1, (hasB_true k).2 x hx⟩
end Go.Proofs.Ytdfkojbfgodegaa
/- Vectors that show what they are for: what solves, is against, loses, said of lists (in plain Lean; nothing of a program). -/
namespace Go.Proofs.Ytdfkojbfgodegaa
open Go.RowKit
variable {p : Int} {m n : Nat} {xs b c x y z : List Int}

/-- does x solve b? -/
def solB (p : Int) (m n : Nat) (xs b x : List Int) : Bool := vecB p m b && (vecB p n x && decide (timesL p m n xs x = b))
/-- is y against b? -/
def agB (p : Int) (m n : Nat) (xs b y : List Int) : Bool := vecB p m b && (vecB p m y && (zeroB (leftL p m n xs y) && decide (dotZ y b % p ≠ 0)))
/-- does y lose the matrix? -/
def losB (p : Int) (m n : Nat) (xs y : List Int) : Bool := vecB p m y && (!zeroB y && zeroB (leftL p m n xs y))
/-- does x show that it is singular? -/
def sinB (p : Int) (n : Nat) (xs x : List Int) : Bool := vecB p n x && (!zeroB x && zeroB (timesL p n n xs x))
theorem vecB_of (hp : rightB p = true) {k : Nat} (hl : x.length = k) (hr : Rng p x) : vecB p k x = true := vecB_yes hp hr hl
end Go.Proofs.Ytdfkojbfgodegaa
