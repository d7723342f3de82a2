/- What the texts Mat7, Mx8, Mx9, MatS, MxM, Mx3, Mx4 show, in one text. -/
import Derived.Test.YtijpeepdedfhoaaGreatBun09
import Derived.Test.YtijpeepdedfhoaaGreatBun12
import Derived.Test.YtijpeepdedfhoaaGreatBun08
import Derived.Deep.RegionHeld3
/- Thin matrices: the document's own answer to: is one right; and the whole matrix of one. -/
namespace Go.Proofs.YtijpeepdedfhoaaGreat
open Go.RowKit Go.Maps

def SpIs (p r c : Int) (bs cs vs : List Int) : Prop := ∃ m n : Nat, r = m ∧ c = n ∧ SpOk p m n bs cs vs
/-- the number at row i, column c, as far as t numbers were looked at -/
def whF (bs cs vs : List Int) (i c : Nat) : Nat → Int
  | 0 => 0
  | t + 1 => if bs.getD i 0 ≤ t ∧ (t : Int) < bs.getD (i + 1) 0 ∧ cs.getD t 0 = c then vs.getD t 0 else whF bs cs vs i c t
theorem whF_before (bs cs vs : List Int) (i c : Nat) : ∀ t : Nat, (t : Int) ≤ bs.getD i 0 → whF bs cs vs i c t = 0
  | 0, _ => rfl
  | t + 1, h => by rw [whF, if_neg (by omega), whF_before bs cs vs i c t (by omega)]
theorem whF_behind (bs cs vs : List Int) (i c : Nat) {t : Nat} (h : bs.getD (i + 1) 0 ≤ t) : ∀ d : Nat, whF bs cs vs i c (t + d) = whF bs cs vs i c t
  | 0 => rfl
  | d + 1 => by
    show whF bs cs vs i c (t + d + 1) = _
    rw [whF, if_neg (by omega), whF_behind bs cs vs i c h d]
/-- the whole matrix's cell -/
def whAt (bs cs vs : List Int) (i c : Nat) : Int := whF bs cs vs i c cs.length

/-- three boxes, one behind the other -/
theorem boxes3 (w : World) (t t' : TypeId) (A B C : Array Value) :
    Blk (((w.alloc (.cells A t)).alloc (.cells B t')).alloc (.cells C t')) w.heap.size t A ∧ Blk (((w.alloc (.cells A t)).alloc (.cells B t')).alloc (.cells C t')) (w.heap.size + 1) t' B ∧
    Blk (((w.alloc (.cells A t)).alloc (.cells B t')).alloc (.cells C t')) (w.heap.size + 1 + 1) t' C ∧ Ext w (((w.alloc (.cells A t)).alloc (.cells B t')).alloc (.cells C t')) :=
  ⟨(Blk.new w t A).ext (((Ext.refl _).alloc _).alloc _), (Blk.at_ (by rw [alloc_size])).ext ((Ext.refl _).alloc _), Blk.at_ (by rw [alloc_size, alloc_size]), (((Ext.refl w).alloc _).alloc _).alloc _⟩
theorem Blk.at5 {w : World} {g : Nat} {t : TypeId} {a b c d e : Value} (h : Blk w g t #[a, b, c, d, e]) : w.cell? ⟨g, 0, none⟩ = some a ∧ w.cell? ⟨g, 1, none⟩ = some b ∧ w.cell? ⟨g, 2, none⟩ = some c ∧ w.cell? ⟨g, 3, none⟩ = some d ∧ w.cell? ⟨g, 4, none⟩ = some e :=
  ⟨h.cell 0, h.cell 1, h.cell 2, h.cell 3, h.cell 4⟩

end Go.Proofs.YtijpeepdedfhoaaGreat
/- Package matrix, thin matrices: what of the library they call; a row's columns and numbers; whether columns rise, whether rows begin right. -/
namespace Go.Proofs.YtijpeepdedfhoaaGreat
open Go.RowKit Go.Maps

/-- answers whether P, and only draws -/
def RetIffD (P : Prop) (w : World) (e : Ending) (w' : World) : Prop := ∃ b : Bool, e = .returned (.bool b) ∧ (b = true ↔ P) ∧ Drw w w'
/-- none less than the one ahead -/
def Sorted (xs : List Int) : Prop := ∀ j, j + 1 < xs.length → xs.getD j 0 ≤ xs.getD (j + 1) 0
/-! ### A row's piece -/
def seg (xs : List Int) (lo hi : Nat) : List Int := (xs.drop lo).take (hi - lo)
theorem seg_len {xs : List Int} {lo hi : Nat} (h : hi ≤ xs.length) : (seg xs lo hi).length = hi - lo := by simp [seg]; omega
theorem seg_get (xs : List Int) (lo hi k : Nat) (h : k < hi - lo) : (seg xs lo hi).getD k 0 = xs.getD (lo + k) 0 := sub_get xs lo _ k h
def segA (a : Option Addr) (lo cap : Nat) : Option Addr := if cap = lo then a else a.map (·.add lo)
theorem Ints.seg {k : IntKind} {w : World} {a : Option Addr} {m cap : Nat} {xs : List Int} (h : Ints k w (.slice a m cap) xs) (lo hi : Nat) (h1 : lo ≤ hi) (h2 : hi ≤ xs.length) :
    Ints k w (.slice (segA a lo cap) (hi - lo) (cap - lo)) (seg xs lo hi) := by
  obtain ⟨a', cap', e, l1, l2, l3⟩ := h
  injection e with e1 e2 e3
  subst e1; subst e3
  have hl := seg_len (lo := lo) h2
  refine ⟨_, cap - lo, by rw [hl], by omega, by omega, fun hp => ?_⟩
  rw [hl] at hp
  obtain ⟨b, off, rfl, hb, hc⟩ := l3 (by omega)
  refine ⟨b, off + lo, ?_, hb, fun j hj => ?_⟩
  · unfold segA
    rw [if_neg (by omega)]
    simp [Go.WideShapes.add_plain]
  · rw [hl] at hj
    rw [Nat.add_assoc, hc (lo + j) (by omega), seg_get xs lo hi j hj]
theorem seg_run {P : Program} {t : TypeId} (hu : P.underlying t = some (.slice (P.elem t))) (hs : ∀ w, ((sizeOf (P.elem t)).run P w) = .ok 1 w) (a : Option Addr) (len cap lo hi : Nat) (h1 : lo ≤ hi) (h2 : hi ≤ cap) (w : World) :
    (Instr.slice t (.slice a len cap) (some (.int .i64 (lo : Int))) (some (.int .i64 (hi : Int))) none).run P w = .ok (.slice (segA a lo cap) (hi - lo) (cap - lo)) w ∧
    (Instr.sliceAt t (.slice a len cap) (some (.int .i64 (lo : Int))) (some (.int .i64 (hi : Int))) none).run P w = .ok (.slice (segA a lo cap) (hi - lo) (cap - lo)) w := by
  have e : (Instr.slice t (.slice a len cap) (some (.int .i64 (lo : Int))) (some (.int .i64 (hi : Int))) none).run P w = .ok (.slice (segA a lo cap) (hi - lo) (cap - lo)) w := by
    rw [run_slice_lh w t _ len cap hu .i64 .i64 lo hi (by omega) (by omega) (by omega), hs]
    simp only [Result.andThen, sliced, Int.toNat_natCast, segA, Nat.mul_one]
  exact ⟨e, by rw [run_sliceAt_slice w t _ _ _ _ hu]; exact e⟩
/-- what line answers: pieces of what was there -/
def RetS (cs vs : List Int) (lo hi : Nat) (w0 w : World) (e : Ending) (w' : World) : Prop := ∃ vc vv, e = .returned (.tuple #[vc, vv]) ∧ Ints .i64 w0 vc (seg cs lo hi) ∧ Ints .u64 w0 vv (seg vs lo hi) ∧ Ext w w'
end Go.Proofs.YtijpeepdedfhoaaGreat
/- Package matrix, thin matrices: whether columns rise, whether rows begin right, SparseRight. -/
namespace Go.Proofs.YtijpeepdedfhoaaGreat
open Go.RowKit Go.Maps

theorem no_iff {P : Prop} (h : ¬ P) : false = true ↔ P := ⟨fun e => absurd e (by decide), fun e => absurd e h⟩
/-- each column is one, and greater than the one ahead -/
def Rise (n : Int) (l : List Int) : Prop := ∀ k, k < l.length → 0 ≤ l.getD k 0 ∧ l.getD k 0 < n ∧ (0 < k → l.getD (k - 1) 0 < l.getD k 0)
/-- answers whether P, the world as it is -/
def RetIffL (P : Prop) (w : World) (e : Ending) (w' : World) : Prop := ∃ b : Bool, e = .returned (.bool b) ∧ (b = true ↔ P) ∧ w = w'
/-- each row is a part of the columns and numbers, and all rows together are these -/
def BeginOk (m : Nat) (bs cs vs : List Int) : Prop := bs.length = m + 1 ∧ bs.getD 0 0 = 0 ∧ Sorted bs ∧ bs.getD m 0 = cs.length ∧ cs.length = vs.length
/-! ### What a right thin matrix is, in the code's own words -/
/-- where row i begins -/
def beg (bs : List Int) (i : Nat) : Nat := (bs.getD i 0).toNat
theorem BeginOk.mono {m : Nat} {bs cs vs : List Int} (h : BeginOk m bs cs vs) : ∀ i, i < m → bs.getD i 0 ≤ bs.getD (i + 1) 0 := fun i hi => h.2.2.1 i (by rw [h.1]; omega)
theorem beg_of {m : Nat} {bs cs : List Int} (h0 : bs.getD 0 0 = 0) (hm : bs.getD m 0 = cs.length) (mono : ∀ i, i < m → bs.getD i 0 ≤ bs.getD (i + 1) 0) {i : Nat} (hi : i ≤ m) : bs.getD i 0 = (beg bs i : Nat) ∧ beg bs i ≤ cs.length := by
  have h1 := mono_ge mono 0 i (Nat.zero_le _) hi
  have h2 := mono_ge mono i m hi (Nat.le_refl _)
  unfold beg
  omega
theorem beg_le {m : Nat} {bs : List Int} (mono : ∀ i, i < m → bs.getD i 0 ≤ bs.getD (i + 1) 0) {i : Nat} (hi : i < m) : beg bs i ≤ beg bs (i + 1) := by
  have := mono i hi
  unfold beg
  omega
/-- each number stands in some row -/
theorem row_of {m : Nat} {bs cs : List Int} (h0 : bs.getD 0 0 = 0) : ∀ (M k : Nat), (k : Int) < bs.getD M 0 → ∃ i, i < M ∧ bs.getD i 0 ≤ k ∧ (k : Int) < bs.getD (i + 1) 0
  | 0, k, h => by rw [h0] at h; omega
  | M + 1, k, h => by
    by_cases e : (k : Int) < bs.getD M 0
    · obtain ⟨i, h1, h2, h3⟩ := row_of (m := m) (cs := cs) h0 M k e
      exact ⟨i, by omega, h2, h3⟩
    · exact ⟨M, by omega, by omega, h⟩
theorem SpOk.begins {p : Int} {m n : Nat} {bs cs vs : List Int} (h : SpOk p m n bs cs vs) : BeginOk m bs cs vs := ⟨h.lb, h.b0, fun j hj => h.mono j (by have := h.lb; omega), h.bm, h.lc⟩
theorem SpOk.nozero {p : Int} {m n : Nat} {bs cs vs : List Int} (h : SpOk p m n bs cs vs) : (0 : Int) ∉ vs := fun h0 => by
  obtain ⟨k, hk, e⟩ := List.mem_iff_getElem.1 h0
  obtain ⟨i, h1, h2, h3⟩ := row_of (m := m) (cs := cs) h.b0 m k (by rw [h.bm, h.lc]; omega)
  exact (h.row i h1 k h2 h3).1 (by simp [List.getD, List.getElem?_eq_getElem hk, e])
theorem SpOk.rises {p : Int} {m n : Nat} {bs cs vs : List Int} (h : SpOk p m n bs cs vs) {i : Nat} (hi : i < m) : Rise n (seg cs (beg bs i) (beg bs (i + 1))) := by
  obtain ⟨e1, l1⟩ := beg_of h.b0 h.bm h.mono (show i ≤ m by omega)
  obtain ⟨e2, l2⟩ := beg_of h.b0 h.bm h.mono (show i + 1 ≤ m by omega)
  intro k hk
  rw [seg_len l2] at hk
  have := h.row i hi (beg bs i + k) (by omega) (by omega)
  obtain ⟨c1, c2, c3, c4⟩ := this
  rw [seg_get _ _ _ _ hk]
  refine ⟨c2, c3, fun h0 => ?_⟩
  rw [seg_get _ _ _ _ (by omega)]
  have := c4 (by omega)
  rwa [show beg bs i + k - 1 = beg bs i + (k - 1) by omega] at this
theorem SpOk.of {p : Int} {m n : Nat} {bs cs vs : List Int} (hm : 1 ≤ m ∧ m ≤ 64) (hn : 1 ≤ n ∧ n ≤ 64) (hb : BeginOk m bs cs vs) (hv : hasB p vs = true) (h0 : (0 : Int) ∉ vs) (hr : ∀ i, i < m → Rise n (seg cs (beg bs i) (beg bs (i + 1)))) : SpOk p m n bs cs vs where
  m1 := hm
  n1 := hn
  lb := hb.1
  lc := hb.2.2.2.2
  hv := hv
  b0 := hb.2.1
  bm := hb.2.2.2.1
  mono := hb.mono
  row := fun i hi k h1 h2 => by
    obtain ⟨e1, l1⟩ := beg_of hb.2.1 hb.2.2.2.1 hb.mono (show i ≤ m by omega)
    obtain ⟨e2, l2⟩ := beg_of hb.2.1 hb.2.2.2.1 hb.mono (show i + 1 ≤ m by omega)
    obtain ⟨t, rfl⟩ : ∃ t, k = beg bs i + t := ⟨k - beg bs i, by omega⟩
    have ht : t < beg bs (i + 1) - beg bs i := by omega
    have hk : beg bs i + t < vs.length := by rw [← hb.2.2.2.2]; omega
    obtain ⟨c1, c2, c3⟩ := hr i hi t (by rw [seg_len l2]; exact ht)
    rw [seg_get _ _ _ _ ht] at c1 c2 c3
    refine ⟨fun e => h0 (by rw [← e]; exact getD_mem 0 hk), c1, c2, fun h => ?_⟩
    have := c3 (by omega)
    rw [seg_get _ _ _ _ (by omega)] at this
    rwa [show beg bs i + t - 1 = beg bs i + (t - 1) by omega]
end Go.Proofs.YtijpeepdedfhoaaGreat
/- Thin matrices: the one of a whole matrix, and that there is no other (in plain Lean; nothing of a program). -/
namespace Go.Proofs.YtijpeepdedfhoaaGreat
variable {p : Int}

/-- what is met at row i and column c, once -/
theorem whF_hit {bs cs vs : List Int} {i c k0 : Nat} (h1 : bs.getD i 0 ≤ k0) (h2 : (k0 : Int) < bs.getD (i + 1) 0) (h3 : cs.getD k0 0 = c) (hu : ∀ k : Nat, bs.getD i 0 ≤ k → (k : Int) < bs.getD (i + 1) 0 → cs.getD k 0 = c → k = k0) :
    ∀ N : Nat, k0 < N → whF bs cs vs i c N = vs.getD k0 0
  | 0, h => absurd h (Nat.not_lt_zero _)
  | N + 1, h => by
    rw [whF]
    by_cases e : bs.getD i 0 ≤ N ∧ (N : Int) < bs.getD (i + 1) 0 ∧ cs.getD N 0 = c
    · rw [if_pos e, hu N e.1 e.2.1 e.2.2]
    · rw [if_neg e]
      have hne : k0 ≠ N := fun e2 => e ⟨by rw [← e2]; exact h1, by rw [← e2]; exact h2, by rw [← e2]; exact h3⟩
      exact whF_hit h1 h2 h3 hu N (by omega)
theorem whF_miss {bs cs vs : List Int} {i c : Nat} (hu : ∀ k : Nat, bs.getD i 0 ≤ k → (k : Int) < bs.getD (i + 1) 0 → cs.getD k 0 ≠ c) : ∀ N : Nat, whF bs cs vs i c N = 0
  | 0 => rfl
  | N + 1 => by
    rw [whF, if_neg fun e => hu N e.1 e.2.1 e.2.2]
    exact whF_miss hu N
/-- the numbers that aren't 0, among the first t; and their columns -/
def thV (xs : List Int) : Nat → List Int
  | 0 => []
  | t + 1 => if xs.getD t 0 = 0 then thV xs t else thV xs t ++ [xs.getD t 0]
def thC (xs : List Int) (n : Nat) : Nat → List Int
  | 0 => []
  | t + 1 => if xs.getD t 0 = 0 then thC xs n t else thC xs n t ++ [((t % n : Nat) : Int)]
theorem thC_len (xs : List Int) (n : Nat) : ∀ t, (thC xs n t).length = (thV xs t).length
  | 0 => rfl
  | t + 1 => by
    rw [thC, thV]
    split
    · exact thC_len xs n t
    · rw [List.length_append, List.length_append, thC_len xs n t]; rfl
/-- in a right thin matrix columns rise -/
theorem SpOk.rise {m n : Nat} {bs cs vs : List Int} (h : SpOk p m n bs cs vs) {i : Nat} (hi : i < m) {k : Nat} (hk : bs.getD i 0 ≤ k) : ∀ d : Nat, ((k + d + 1 : Nat) : Int) < bs.getD (i + 1) 0 → cs.getD k 0 < cs.getD (k + d + 1) 0
  | 0, hd => by
    have := (h.row i hi (k + 1) (by omega) hd).2.2.2 (by omega)
    rw [show k + 1 - 1 = k by omega] at this
    exact this
  | d + 1, hd => by
    have h1 := h.rise hi hk d (by omega)
    have h2 := (h.row i hi (k + d + 2) (by omega) hd).2.2.2 (by omega)
    rw [show k + d + 2 - 1 = k + d + 1 by omega] at h2
    exact Int.lt_trans h1 h2
theorem SpOk.once {m n : Nat} {bs cs vs : List Int} (h : SpOk p m n bs cs vs) {i : Nat} (hi : i < m) {k k' : Nat} (h1 : bs.getD i 0 ≤ k) (h2 : (k : Int) < bs.getD (i + 1) 0) (h3 : bs.getD i 0 ≤ k') (h4 : (k' : Int) < bs.getD (i + 1) 0) (e : cs.getD k 0 = cs.getD k' 0) : k = k' := by
  rcases Nat.lt_trichotomy k k' with hlt | heq | hgt
  · have := h.rise hi h1 (k' - k - 1) (by rw [show k + (k' - k - 1) + 1 = k' by omega]; exact h4)
    rw [show k + (k' - k - 1) + 1 = k' by omega] at this
    omega
  · exact heq
  · have := h.rise hi h3 (k - k' - 1) (by rw [show k' + (k - k' - 1) + 1 = k by omega]; exact h2)
    rw [show k' + (k - k' - 1) + 1 = k by omega] at this
    omega
/-- the scan of a right thin matrix's whole one, up to row i and column c -/
structure Scan (bs cs vs xs : List Int) (n i c K : Nat) : Prop where
  lo : bs.getD i 0 ≤ K
  hi : (K : Int) ≤ bs.getD (i + 1) 0
  be : ∀ k : Nat, bs.getD i 0 ≤ k → k < K → cs.getD k 0 < c
  af : ∀ k : Nat, K ≤ k → (k : Int) < bs.getD (i + 1) 0 → (c : Int) ≤ cs.getD k 0
  v : thV xs (i * n + c) = vs.take K
  c_ : thC xs n (i * n + c) = cs.take K
theorem Scan.step {m n : Nat} {bs cs vs xs : List Int} {i c K : Nat} (ok : SpOk p m n bs cs vs) (hx : ∀ i c, i < m → c < n → xs.getD (i * n + c) 0 = whAt bs cs vs i c) (hi : i < m) (hc : c < n) (h : Scan bs cs vs xs n i c K) : ∃ K', Scan bs cs vs xs n i (c + 1) K' := by
  have hble := mono_ge ok.mono (i + 1) m (by omega) (Nat.le_refl _)
  rw [ok.bm] at hble
  have hxc := hx i c hi hc
  by_cases e : (K : Int) < bs.getD (i + 1) 0 ∧ cs.getD K 0 = c
  · have hcell := ok.row i hi K h.lo e.1
    have hw : whAt bs cs vs i c = vs.getD K 0 := whF_hit h.lo e.1 e.2 (fun k h1 h2 h3 => ok.once hi h1 h2 h.lo e.1 (by rw [h3, e.2])) cs.length (by omega)
    have hKl : K < vs.length := by rw [← ok.lc]; omega
    refine ⟨K + 1, ⟨by have := h.lo; omega, by omega, fun k h1 h2 => ?_, fun k h1 h2 => ?_, ?_, ?_⟩⟩
    · by_cases ek : k = K
      · rw [ek, e.2]; omega
      · have := h.be k h1 (by omega); omega
    · have := ok.rise hi h.lo (k - K - 1) (by rw [show K + (k - K - 1) + 1 = k by omega]; exact h2)
      rw [show K + (k - K - 1) + 1 = k by omega, e.2] at this
      omega
    · rw [show i * n + (c + 1) = i * n + c + 1 by omega, thV, hxc, hw, if_neg hcell.1, h.v, take_snoc vs K hKl]
    · rw [show i * n + (c + 1) = i * n + c + 1 by omega, thC, hxc, hw, if_neg hcell.1, h.c_, take_snoc cs K (by omega), at_mod hc, e.2]
  · have hw : whAt bs cs vs i c = 0 := whF_miss (fun k h1 h2 h3 => by
      rcases Nat.lt_or_ge k K with hk | hk
      · have := h.be k h1 hk; omega
      · by_cases ek : k = K
        · exact e ⟨by rw [← ek]; exact h2, by rw [← ek]; exact h3⟩
        · have h4 := h.af K (Nat.le_refl _) (by omega)
          have h5 := ok.rise hi h.lo (k - K - 1) (by rw [show K + (k - K - 1) + 1 = k by omega]; exact h2)
          rw [show K + (k - K - 1) + 1 = k by omega] at h5
          omega) _
    refine ⟨K, ⟨h.lo, h.hi, fun k h1 h2 => by have := h.be k h1 h2; omega, fun k h1 h2 => ?_, ?_, ?_⟩⟩
    · by_cases ek : k = K
      · have h4 := h.af k h1 h2
        have : cs.getD k 0 ≠ c := fun h3 => e ⟨by rw [← ek]; exact h2, by rw [← ek]; exact h3⟩
        omega
      · have h4 := h.af K (Nat.le_refl _) (by omega)
        have h5 := ok.rise hi h.lo (k - K - 1) (by rw [show K + (k - K - 1) + 1 = k by omega]; exact h2)
        rw [show K + (k - K - 1) + 1 = k by omega] at h5
        omega
    · rw [show i * n + (c + 1) = i * n + c + 1 by omega, thV, hxc, hw, if_pos rfl, h.v]
    · rw [show i * n + (c + 1) = i * n + c + 1 by omega, thC, hxc, hw, if_pos rfl, h.c_]
/-- a right thin matrix is the one of its whole matrix -/
theorem thin_unique {m n : Nat} {bs cs vs xs : List Int} (ok : SpOk p m n bs cs vs) (hx : ∀ i c, i < m → c < n → xs.getD (i * n + c) 0 = whAt bs cs vs i c) :
    (∀ i, i ≤ m → bs.getD i 0 = (thV xs (i * n)).length ∧ thV xs (i * n) = vs.take (bs.getD i 0).toNat ∧ thC xs n (i * n) = cs.take (bs.getD i 0).toNat) := by
  intro i
  induction i with
  | zero =>
    intro _
    rw [ok.b0, Nat.zero_mul]
    exact ⟨rfl, rfl, rfl⟩
  | succ i ih =>
    intro hi
    obtain ⟨h1, h2, h3⟩ := ih (by omega)
    have hm := ok.mono i (by omega)
    have hb0 := mono_ge ok.mono 0 i (Nat.zero_le _) (by omega)
    rw [ok.b0] at hb0
    have start : Scan bs cs vs xs n i 0 (bs.getD i 0).toNat := ⟨by omega, by omega, fun k a b => by omega, fun k a b => (ok.row i (by omega) k (by omega) b).2.1, by rw [Nat.add_zero]; exact h2, by rw [Nat.add_zero]; exact h3⟩
    have all : ∀ c, c ≤ n → ∃ K, Scan bs cs vs xs n i c K := by
      intro c
      induction c with
      | zero => intro _; exact ⟨_, start⟩
      | succ c ihc =>
        intro hc
        obtain ⟨K, hK⟩ := ihc (by omega)
        exact hK.step ok hx (by omega) (by omega)
    obtain ⟨K, hK⟩ := all n (Nat.le_refl _)
    have hKe : (K : Int) = bs.getD (i + 1) 0 := by
      have h4 := hK.hi
      rcases Int.lt_or_eq_of_le h4 with h5 | h5
      · have h6 := hK.af K (Nat.le_refl _) h5
        have h7 := (ok.row i (by omega) K hK.lo h5).2.2.1
        omega
      · exact h5
    have hble := mono_ge ok.mono (i + 1) m (by omega) (Nat.le_refl _)
    rw [ok.bm, ok.lc] at hble
    have hv := hK.v
    have hc := hK.c_
    rw [← Nat.succ_mul] at hv hc
    refine ⟨?_, by rw [← hKe]; exact hv, by rw [← hKe]; exact hc⟩
    rw [hv, List.length_take, ← hKe]
    omega
end Go.Proofs.YtijpeepdedfhoaaGreat
/- Thin matrices: sums over a row's numbers (in plain Lean; nothing of a program). -/
namespace Go.Proofs.YtijpeepdedfhoaaGreat
variable {p : Int}

theorem whF_none {bs cs vs : List Int} {i c : Nat} : ∀ N : Nat, (∀ k : Nat, k < N → bs.getD i 0 ≤ k → (k : Int) < bs.getD (i + 1) 0 → cs.getD k 0 ≠ c) → whF bs cs vs i c N = 0
  | 0, _ => rfl
  | N + 1, h => by
    rw [whF, if_neg fun e => h N (Nat.lt_succ_self _) e.1 e.2.1 e.2.2]
    exact whF_none N fun k hk => h k (by omega)
theorem SpOk.bg {m n : Nat} {bs cs vs : List Int} (ok : SpOk p m n bs cs vs) {i : Nat} (hi : i ≤ m) : bs.getD i 0 = (beg bs i : Nat) ∧ beg bs i ≤ cs.length := beg_of ok.b0 ok.bm ok.mono hi
theorem SpOk.ble {m n : Nat} {bs cs vs : List Int} (ok : SpOk p m n bs cs vs) {i : Nat} (hi : i < m) : beg bs i ≤ beg bs (i + 1) := beg_le ok.mono hi
theorem wh_step {m n : Nat} {bs cs vs : List Int} (ok : SpOk p m n bs cs vs) {i t : Nat} (hi : i < m) (ht : beg bs i + t < beg bs (i + 1)) (c : Nat) :
    whF bs cs vs i c (beg bs i + t + 1) = if cs.getD (beg bs i + t) 0 = c then vs.getD (beg bs i + t) 0 else whF bs cs vs i c (beg bs i + t) := by
  have e1 := (ok.bg (show i ≤ m by omega)).1
  have e2 := (ok.bg (show i + 1 ≤ m by omega)).1
  rw [whF]
  by_cases e : cs.getD (beg bs i + t) 0 = c
  · rw [if_pos e, if_pos ⟨by omega, by omega, e⟩]
  · rw [if_neg e, if_neg fun h => e h.2.2]
theorem wh_fresh {m n : Nat} {bs cs vs : List Int} (ok : SpOk p m n bs cs vs) {i t : Nat} (hi : i < m) (ht : beg bs i + t < beg bs (i + 1)) {c : Nat} (e : cs.getD (beg bs i + t) 0 = c) : whF bs cs vs i c (beg bs i + t) = 0 := by
  have e1 := (ok.bg (show i ≤ m by omega)).1
  have e2 := (ok.bg (show i + 1 ≤ m by omega)).1
  refine whF_none _ fun k hk h1 h2 h3 => ?_
  have := ok.once hi h1 h2 (k' := beg bs i + t) (by omega) (by omega) (by rw [h3, e])
  omega
theorem wh_start {m n : Nat} {bs cs vs : List Int} (ok : SpOk p m n bs cs vs) {i : Nat} (hi : i < m) (c : Nat) : whF bs cs vs i c (beg bs i) = 0 :=
  whF_before bs cs vs i c _ (by have e1 := (ok.bg (show i ≤ m by omega)).1; omega)
theorem wh_end {m n : Nat} {bs cs vs : List Int} (ok : SpOk p m n bs cs vs) {i : Nat} (hi : i < m) (c : Nat) : whF bs cs vs i c (beg bs (i + 1)) = whAt bs cs vs i c := by
  obtain ⟨e2, l2⟩ := ok.bg (show i + 1 ≤ m by omega)
  have := whF_behind bs cs vs i c (t := beg bs (i + 1)) (by omega) (cs.length - beg bs (i + 1))
  rw [Nat.add_sub_cancel' l2] at this
  exact this.symm
/-- the column of a number -/
theorem SpOk.col {m n : Nat} {bs cs vs : List Int} (ok : SpOk p m n bs cs vs) {i t : Nat} (hi : i < m) (ht : beg bs i + t < beg bs (i + 1)) : ∃ e : Nat, cs.getD (beg bs i + t) 0 = e ∧ e < n := by
  have e1 := (ok.bg (show i ≤ m by omega)).1
  have e2 := (ok.bg (show i + 1 ≤ m by omega)).1
  obtain ⟨_, c2, c3, _⟩ := ok.row i hi (beg bs i + t) (by omega) (by omega)
  exact ⟨(cs.getD (beg bs i + t) 0).toNat, by omega, by omega⟩
/-- a row's sum, over its columns or over its numbers -/
theorem row_sum {m n : Nat} {bs cs vs : List Int} (ok : SpOk p m n bs cs vs) {i : Nat} (hi : i < m) (y : Nat → Int) : ∀ t : Nat, beg bs i + t ≤ beg bs (i + 1) →
    (sm n fun c => whF bs cs vs i c (beg bs i + t) * y c) = sm t fun s => vs.getD (beg bs i + s) 0 * y (cs.getD (beg bs i + s) 0).toNat
  | 0, _ => by
    show _ = 0
    exact sm_zero fun c _ => by rw [Nat.add_zero, wh_start ok hi, Int.zero_mul]
  | t + 1, h => by
    obtain ⟨e, he, hen⟩ := ok.col hi (t := t) (by omega)
    show _ = (sm t fun s => vs.getD (beg bs i + s) 0 * y (cs.getD (beg bs i + s) 0).toNat) + vs.getD (beg bs i + t) 0 * y (cs.getD (beg bs i + t) 0).toNat
    rw [← row_sum ok hi y t (by omega), he, Int.toNat_natCast, ← sm_single (fun _ => vs.getD (beg bs i + t) 0 * y e) hen, ← sm_add]
    refine sm_congr fun c _ => ?_
    rw [← Nat.add_assoc, wh_step ok hi (by omega) c, he]
    by_cases ec : c = e
    · subst ec
      rw [if_pos rfl, if_pos rfl, wh_fresh ok hi (by omega) he, Int.zero_mul, Int.zero_add]
    · rw [if_neg (by omega), if_neg ec, Int.add_zero]
/-- a right thin matrix, whole -/
def wholeL (m n : Nat) (bs cs vs : List Int) : List Int := grid m n (whAt bs cs vs)
theorem wh_rng {m n : Nat} {bs cs vs : List Int} (hp : 2 ≤ p) (hv : Rng p vs) (i c : Nat) : ∀ N : Nat, 0 ≤ whF bs cs vs i c N ∧ whF bs cs vs i c N < p
  | 0 => ⟨Int.le_refl _, by show (0 : Int) < p; omega⟩
  | N + 1 => by
    rw [whF]
    split
    · exact hv.getD hp _
    · exact wh_rng (m := m) (n := n) hp hv i c N
/-- the row's dot product -/
theorem dot_row {m n : Nat} {bs cs vs ys met : List Int} (ok : SpOk p m n bs cs vs) {i : Nat} (hi : i < m) (hm : met.length = beg bs (i + 1) - beg bs i) (hmet : ∀ k, k < met.length → met.getD k 0 = ys.getD (cs.getD (beg bs i + k) 0).toNat 0) :
    dotZ (seg vs (beg bs i) (beg bs (i + 1))) met % p = dv p n (fun c => (wholeL m n bs cs vs).getD (i * n + c) 0) fun c => ys.getD c 0 := by
  have hble := ok.ble hi
  obtain ⟨_, l2⟩ := ok.bg (show i + 1 ≤ m by omega)
  have hl : (seg vs (beg bs i) (beg bs (i + 1))).length = met.length := by rw [seg_len (by rw [← ok.lc]; exact l2), hm]
  rw [dotZ_sm _ _ hl, hl, hm]
  unfold dv
  have e := row_sum ok hi (fun c => ys.getD c 0) (beg bs (i + 1) - beg bs i) (by omega)
  rw [Nat.add_sub_cancel' hble] at e
  rw [sm_congr (g := fun c => whF bs cs vs i c (beg bs (i + 1)) * ys.getD c 0) (n := n) fun c hc => by
    show (grid m n (whAt bs cs vs)).getD (i * n + c) 0 * ys.getD c 0 = _
    rw [grid_get _ hi hc, wh_end ok hi], e]
  congr 1
  refine sm_congr fun s hs => ?_
  rw [seg_get _ _ _ _ hs, hmet s (by rw [hm]; exact hs)]
end Go.Proofs.YtijpeepdedfhoaaGreat
/- Package matrix: matrices under way; Turn, Left. -/
namespace Go.Proofs.YtijpeepdedfhoaaGreat
open Go.RowKit Go.Maps

/-- a matrix under way: its box, and its cells -/
structure Und (w0 w : World) (h g Q : Nat) (r c : Int) (l : List Int) : Prop where
  box : Blk w h 25 #[.int .i64 r, .int .i64 c, .slice (some ⟨g, 0, none⟩) Q Q]
  row : WRow w g 0 l
  len : l.length = Q
  ext : Ext w0 w
  hg : w0.heap.size ≤ g
  hh : w0.heap.size ≤ h
  ne : g ≠ h
theorem Und.ext' {w0 w w' : World} {h g Q : Nat} {r c : Int} {l : List Int} (b : Und w0 w h g Q r c l) (y : Ext w w') : Und w0 w' h g Q r c l :=
  ⟨b.box.ext y, b.row.ext y, b.len, b.ext.trans y, b.hg, b.hh, b.ne⟩
theorem Und.put {w0 w : World} {h g Q : Nat} {r c : Int} {l : List Int} (b : Und w0 w h g Q r c l) {i : Nat} (hi : i < Q) (x : Int) : Und w0 (w.setCell ⟨g, i, none⟩ (.int .u64 x)) h g Q r c (l.set i x) := by
  have hs := b.row.set_ (i := i) (by rw [b.len]; exact hi) x
  rw [Nat.zero_add] at hs
  exact ⟨b.box.grown (setCell_grown _ _ _) (fun e => b.ne (by injection e)), hs, by rw [List.length_set]; exact b.len, b.ext.setCell (p := ⟨g, i, none⟩) b.hg _, b.hg, b.hh, b.ne⟩
theorem Und.at_ {w0 w : World} {h g Q : Nat} {r c : Int} {l : List Int} (b : Und w0 w h g Q r c l) {i : Nat} (hi : i < Q) : w.cell? ⟨g, i, none⟩ = some (.int .u64 (l.getD i 0)) ∧ w.frozen? ⟨g, i, none⟩ = false := by
  have := b.row.2 i (by rw [b.len]; exact hi)
  rw [Nat.zero_add] at this
  exact this
theorem Und.start {w0 w : World} {g Q : Nat} {r c : Int} {l : List Int} (hg : w0.heap.size ≤ g) (hrow : WRow w g 0 l) (hl : l.length = Q) (x : Ext w0 w) :
    Und w0 (w.alloc (.cells #[.int .i64 r, .int .i64 c, .slice (some ⟨g, 0, none⟩) Q Q] 25)) w.heap.size g Q r c l :=
  ⟨Blk.new _ _ _, hrow.ext ((Ext.refl _).alloc _), hl, x.alloc _, hg, x.size, Nat.ne_of_lt hrow.1⟩
/-- the answer's box is told a matrix -/
theorem fin0 {w wv : World} {g : Nat} {x y z : Value} (hR : Blk w g 25 #[x, y, z]) (hv : Ext wv w) (hg : wv.heap.size ≤ g) (a b c : Value) :
    Blk (((w.setCell ⟨g, 0, none⟩ a).setCell ⟨g, 1, none⟩ b).setCell ⟨g, 2, none⟩ c) g 25 #[a, b, c] ∧ Ext wv (((w.setCell ⟨g, 0, none⟩ a).setCell ⟨g, 1, none⟩ b).setCell ⟨g, 2, none⟩ c) :=
  ⟨((hR.set_ 0 a).set_ 1 b).set_ 2 c, ((hv.setCell (p := ⟨g, 0, none⟩) hg a).setCell (p := ⟨g, 1, none⟩) hg b).setCell (p := ⟨g, 2, none⟩) hg c⟩
theorem Und.fin {w0 w wv : World} {h g Q G : Nat} {r c : Int} {l : List Int} (b : Und w0 w h g Q r c l) {x y z : Value} (hR : Blk w G 25 #[x, y, z]) (hG : G < w0.heap.size) (hv : Ext wv w) (hgv : wv.heap.size ≤ G) (hQ : Q ≤ 9223372036854775807) :
    Blk (((w.setCell ⟨G, 0, none⟩ (.int .i64 r)).setCell ⟨G, 1, none⟩ (.int .i64 c)).setCell ⟨G, 2, none⟩ (.slice (some ⟨g, 0, none⟩) Q Q)) G 25 #[.int .i64 r, .int .i64 c, .slice (some ⟨g, 0, none⟩) Q Q] ∧
    Ints .u64 (((w.setCell ⟨G, 0, none⟩ (.int .i64 r)).setCell ⟨G, 1, none⟩ (.int .i64 c)).setCell ⟨G, 2, none⟩ (.slice (some ⟨g, 0, none⟩) Q Q)) (.slice (some ⟨g, 0, none⟩) Q Q) l ∧
    Ext wv (((w.setCell ⟨G, 0, none⟩ (.int .i64 r)).setCell ⟨G, 1, none⟩ (.int .i64 c)).setCell ⟨G, 2, none⟩ (.slice (some ⟨g, 0, none⟩) Q Q)) := by
  have hne : g ≠ G := by have := b.hg; omega
  refine ⟨(fin0 hR hv hgv _ _ _).1, ?_, (fin0 hR hv hgv _ _ _).2⟩
  exact (((b.row.set_other hne).set_other hne).set_other hne).ints' b.len (Nat.le_refl _) hQ
theorem boxes2 (w : World) (t t' : TypeId) (A B : Array Value) :
    Blk ((w.alloc (.cells A t)).alloc (.cells B t')) w.heap.size t A ∧ Blk ((w.alloc (.cells A t)).alloc (.cells B t')) (w.heap.size + 1) t' B ∧ Ext w ((w.alloc (.cells A t)).alloc (.cells B t')) :=
  ⟨(Blk.new w t A).ext ((Ext.refl _).alloc _), Blk.at_ (by rw [alloc_size]), ((Ext.refl w).alloc _).alloc _⟩
theorem at_inj {c i k i' k' : Nat} (hk : k < c) (hk' : k' < c) (h : i * c + k = i' * c + k') : i = i' ∧ k = k' := by
  constructor
  · rw [← at_div hk (i := i), h, at_div hk']
  · rw [← at_mod hk (i := i), h, at_mod hk']
theorem put_at {l : List Int} {c j i a b : Nat} (x : Int) (hi : i < c) (hb : b < c) (hl : j * c + i < l.length) : (l.set (j * c + i) x).getD (a * c + b) 0 = if a = j ∧ b = i then x else l.getD (a * c + b) 0 := by
  rw [set_get l _ _ x hl]
  by_cases e : a = j ∧ b = i
  · rw [if_pos e, if_pos (by rw [e.1, e.2])]
  · rw [if_neg e, if_neg (fun h => e (by obtain ⟨h1, h2⟩ := at_inj hi hb h; exact ⟨h1.symm, h2.symm⟩))]

/-- what a call answers where something isn't right, instead of a matrix -/
def noMat : Value := .tuple #[.agg #[.int .i64 0, .int .i64 0, .slice none 0 0], .int .i64 1]
set_option maxHeartbeats 400000 in
theorem mxTurn_no (p r c : Int) (v : Value) (xs : List Int) (w : World) (h0 : 0 ≤ p) (h1 : p ≤ 18446744073709551615) (hv : Ints .u64 w v xs) (hx : U64s xs) (h : matB p r c xs = false) :
    Calls Tryz.prog 25 #[.int .u64 p, matV r c v] w (Ret noMat w) := by
  have C1 := hid fun (W : World) (hW : Ext w W) => mxRight p r c v xs W h0 h1 (hv.ext hW) hx
  rw [h] at C1
  unfold matV at C1
  unfold matV noMat
  have hb2 := hid (boxes2 w 25 25 #[.int .i64 r, .int .i64 c, v] #[.int .i64 0, .int .i64 0, .slice none 0 0])
  obtain ⟨a, cap, rfl, k1, k2, k3⟩ := hv
  clear k3 hx h
  go_enter Tryz.func25, Tryz.ntmps25
  go_wp2_with (go_at_call 9; refine (C1.out _ (by repeat (first | exact Ext.refl _ | assumption | refine Ext.drew ?_ | refine Ext.drewN ?_ _ | refine Ext.alloc ?_ _ | refine Ext.trans ?_ (by assumption)))).mono ?_; rintro _ w1 ⟨rfl, x1⟩; have HR := hid (hb2.out.2.1.ext x1); have HE := hid (hb2.out.2.2.trans x1); obtain ⟨b0, b1, b2⟩ := HR.out.at3; have f0 := HR.out.frozen 0; have f1 := HR.out.frozen 1; have f2 := HR.out.frozen 2)
  have F := fin0 HR.out HE.out (by omega) (.int .i64 0) (.int .i64 0) (.slice none 0 0)
  refine bodyPost_ret (results_cell_row_tmp rfl _ _ (w.heap.size + 1) 25 _ (0, 0) _ rfl F.1 Tryz.underlying25 rfl (by kernel_rfl)) rfl ?_
  exact ⟨rfl, F.2⟩

set_option maxRecDepth 100000 in
set_option maxHeartbeats 1000000 in
theorem mxTurn_yes (p : Int) (m n : Nat) (v : Value) (xs : List Int) (w : World) (ok : MatOk p m n xs) (hv : Ints .u64 w v xs) :
    Calls Tryz.prog 25 #[.int .u64 p, matV m n v] w (RetN n m (turnL m n xs) w) := by
  have hp2 := rightB_true ok.hp
  have C1 := hid fun (W : World) (hW : Ext w W) => mxRight p m n v xs W (by omega) (by omega) (hv.ext hW) ok.u64
  rw [ok.b] at C1
  have Ok := hid ok
  have hm := ok.hm; have hn := ok.hn
  obtain ⟨a, cap, rfl, k1, k2, k3⟩ := hv
  obtain ⟨b, off, rfl, hb, k4⟩ := k3 ok.pos
  have K := hid k4
  have hcap := hid fun (i : Nat) (h : i < m) => Nat.le_trans (ok.at_ h) k1
  clear k3 k4 ok
  obtain ⟨Q, hQ⟩ : ∃ Q, n * m = Q := ⟨_, rfl⟩
  have hQb : Q ≤ 4096 := by rw [← hQ]; exact Nat.mul_le_mul hn.2 hm.2
  have HN := hid fun W : World => mxNoughts n m W hn.2 hm.2
  rw [hQ] at HN
  have HQ := hid hQ
  clear hQ
  have hb2 := hid (boxes2 w 25 25 #[.int .i64 (m : Int), .int .i64 (n : Int), .slice (some ⟨b, off, none⟩) xs.length cap] #[.int .i64 0, .int .i64 0, .slice none 0 0])
  unfold matV at C1
  unfold matV
  go_enter Tryz.func25, Tryz.ntmps25
  go_wp2_with (go_at_call 9; refine (C1.out _ (by repeat (first | exact Ext.refl _ | assumption | refine Ext.drew ?_ | refine Ext.drewN ?_ _ | refine Ext.alloc ?_ _ | refine Ext.trans ?_ (by assumption)))).mono ?_; rintro _ w1 ⟨rfl, x1⟩; have HA := hid (hb2.out.1.ext x1); have HR := hid (hb2.out.2.1.ext x1); have HE := hid (hb2.out.2.2.trans x1); obtain ⟨b0, b1, b2⟩ := HA.out.at3)
  have hR1 := HR.out.lt
  refine (HN.out _).mono ?_
  rintro _ w2 ⟨g, rfl, hg, hrow, x2⟩
  have HU := hid (Und.start (Q := Q) (r := (n : Int)) (c := (m : Int)) hg hrow List.length_replicate x2)
  unfold matV
  have b3 := (HA.out.ext (x2.alloc (.cells #[.int .i64 (n : Int), .int .i64 (m : Int), .slice (some ⟨g, 0, none⟩) Q Q] 25))).at3
  clear b0 b1 b2
  obtain ⟨b0, b1, b2⟩ := b3
  go_wp2_with fail
  obtain ⟨h, hh⟩ : ∃ h, w2.heap.size = h := ⟨_, rfl⟩
  obtain ⟨w3, hw3⟩ : ∃ w3, w2.alloc (.cells #[.int .i64 (n : Int), .int .i64 (m : Int), .slice (some ⟨g, 0, none⟩) Q Q] 25) = w3 := ⟨_, rfl⟩
  rw [hw3, hh] at HU
  rw [hw3, hh]
  clear hh hw3 b0 b1 b2 hrow x2 hg
  obtain ⟨gR, hgR⟩ : ∃ gR, w.heap.size + 1 = gR := ⟨_, rfl⟩
  have hgw : w.heap.size ≤ gR := by omega
  rw [hgR] at HR hR1
  rw [hgR]
  obtain ⟨gA, hgA⟩ : ∃ gA, w.heap.size = gA := ⟨_, rfl⟩
  have hbA : b < gA := by omega
  rw [hgA] at HA
  rw [hgA]
  clear hgR hgA
  go_loopw [22] (fun iv wr => ∃ (i : Nat) (l : List Int), iv = .int .i64 i ∧ i ≤ m ∧ Hid (Und w1 wr h g Q n m l) ∧ Hid (∀ a b, a < n → b < i → l.getD (a * m + b) 0 = xs.getD (b * n + a) 0)) (fun iv _ => m - (intOf iv).toNat)
  case atStart => exact ⟨0, _, rfl, Nat.zero_le _, HU, hid (by omega)⟩
  case round =>
    clear HU
    obtain ⟨i, l, rfl, hi, HU, hl⟩ := hrel
    obtain ⟨b0, b1, b2⟩ := (HA.out.ext HU.out.ext).at3
    by_cases hlt : i < m
    · have hck := hcap.out i hlt
      have hcells := fun (j : Nat) (hj : j < n) => K.out (i * n + j) (by have := Ok.out.at_ hlt; omega)
      go_wp2_with fail
      refine (mxRow (m : Int) (n : Int) n i b off xs.length cap wr rfl hn (by omega) hck k2).mono ?_
      rintro _ w4 ⟨rfl, x4⟩
      simp only [← Nat.add_assoc] at hcells
      obtain ⟨o, ho⟩ : ∃ o, off + i * n = o := ⟨_, rfl⟩
      obtain ⟨cp, hcp⟩ : ∃ cp, cap - i * n = cp := ⟨_, rfl⟩
      rw [ho] at hcells
      rw [ho, hcp]
      have hcpn : n ≤ cp := by omega
      have hcpb : cp ≤ 9223372036854775807 := by omega
      have HC := hid hcells
      clear ho hcp hck hcells b0 b1 b2
      go_wp2_with fail
      go_loopw [29] (fun jv wr => ∃ (j : Nat) (l : List Int), jv = .int .i64 j ∧ j ≤ n ∧ Hid (Und w1 wr h g Q n m l) ∧ Hid (∀ a b, a < n → (b < i ∨ b = i ∧ a < j) → l.getD (a * m + b) 0 = xs.getD (b * n + a) 0)) (fun jv _ => n - (intOf jv).toNat)
      case atStart => exact ⟨0, l, rfl, Nat.zero_le _, hid (HU.out.ext' x4), hid fun a b ha hb => hl.out a b ha (by omega)⟩
      case round =>
        clear HU hl
        obtain ⟨j, l, rfl, hj, HU, hl⟩ := hrel
        rename World => wi
        by_cases hlj : j < n
        · have gx := ((HE.out.trans HU.out.ext).cells _ _ hb).trans (HC.out j hlj)
          obtain ⟨x, ex⟩ : ∃ x, xs.getD (i * n + j) 0 = x := ⟨_, rfl⟩
          rw [ex] at gx
          have Ex := hid ex
          clear ex
          obtain ⟨b0, b1, b2⟩ := (HA.out.ext HU.out.ext).at3
          obtain ⟨o0, o1, o2⟩ := HU.out.box.at3
          obtain ⟨q, hq⟩ : ∃ q, j * m = q := ⟨_, rfl⟩
          obtain ⟨t, ht⟩ : ∃ t, q + i = t := ⟨_, rfl⟩
          have htQ : t < Q := by rw [← ht, ← hq, ← HQ.out]; exact at_lt hlj hlt
          have hqi : (j : Int) * (m : Int) = (q : Int) := by rw [← hq]; push_cast; rfl
          have hti : (q : Int) + (i : Int) = (t : Int) := by omega
          have hqb : q ≤ t := by omega
          obtain ⟨gt, ft⟩ := HU.out.at_ htQ
          have Htq := hid (show j * m + i = t by omega)
          clear ht hq
          go_wp2_with fail
          go_roundw
          case rel =>
            refine ⟨j + 1, l.set t x, by go_num, by omega, hid (HU.out.put htQ x), hid fun a b ha hb => ?_⟩
            rw [← Htq.out, put_at x hlt (by omega) (by rw [Htq.out, HU.out.len]; exact htQ)]
            by_cases e : a = j ∧ b = i
            · rw [if_pos e, e.1, e.2]; exact Ex.out.symm
            · rw [if_neg e]; exact hl.out a b ha (by omega)
          case measure => simp [intOf]; omega
        · obtain rfl : n = j := by omega
          go_wp2_with fail
          go_roundw
          case rel => exact ⟨i + 1, l, by go_num, by omega, HU, hid fun a b ha hb => hl.out a b ha (by omega)⟩
          case measure => simp [intOf]; omega
    · obtain rfl : m = i := by omega
      obtain ⟨o0, o1, o2⟩ := HU.out.box.at3
      have hRr := HR.out.ext HU.out.ext
      obtain ⟨r0, r1, r2⟩ := hRr.at3
      have f0 := hRr.frozen 0
      have f1 := hRr.frozen 1
      have f2 := hRr.frozen 2
      have F := hid (HU.out.fin hRr hR1 (HE.out.trans HU.out.ext) hgw (by omega))
      clear hRr
      go_wp2_with fail
      refine bodyPost_ret (results_cell_row_tmp rfl _ _ gR 25 _ (0, 0) _ rfl F.out.1 Tryz.underlying25 rfl (by kernel_rfl)) rfl ?_
      have e : l = turnL m n xs := grid_of (by rw [HU.out.len, HQ.out]) fun a b ha hb => hl.out a b ha hb
      exact ⟨_, rfl, e ▸ F.out.2.1, F.out.2.2⟩
end Go.Proofs.YtijpeepdedfhoaaGreat
/- Package matrix: Left, Mul, One. -/
namespace Go.Proofs.YtijpeepdedfhoaaGreat
open Go.RowKit Go.Maps

theorem MatOk.turn {p : Int} {m n : Nat} {xs : List Int} (h : MatOk p m n xs) : MatOk p n m (turnL m n xs) :=
  ⟨h.hp, turnL_rng (rightB_true h.hp).1 h.hx m n, h.hn, h.hm, turnL_len m n xs⟩
theorem times_turn (p : Int) (m n : Nat) (xs ys : List Int) : timesL p n m (turnL m n xs) ys = leftL p m n xs ys := by
  unfold timesL leftL
  refine tab_congr fun k hk => dv_congr (fun i hi => ?_) fun _ _ => rfl
  rw [turnL, grid_get _ hk hi]
theorem boxesM3 (w : World) (t : TypeId) (A B C : Array Value) :
    Blk (((w.alloc (.cells A t)).alloc (.cells B t)).alloc (.cells C t)) w.heap.size t A ∧ Blk (((w.alloc (.cells A t)).alloc (.cells B t)).alloc (.cells C t)) (w.heap.size + 1) t B ∧
    Blk (((w.alloc (.cells A t)).alloc (.cells B t)).alloc (.cells C t)) (w.heap.size + 1 + 1) t C ∧ Ext w (((w.alloc (.cells A t)).alloc (.cells B t)).alloc (.cells C t)) :=
  ⟨(Blk.new w t A).ext (((Ext.refl _).alloc _).alloc _), (Blk.at_ (by rw [alloc_size])).ext ((Ext.refl _).alloc _), Blk.at_ (by rw [alloc_size, alloc_size]), (((Ext.refl w).alloc _).alloc _).alloc _⟩

end Go.Proofs.YtijpeepdedfhoaaGreat
