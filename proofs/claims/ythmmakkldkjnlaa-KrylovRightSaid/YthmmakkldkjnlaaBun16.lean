/- What the texts KryL, KryK, KryA, Kr1, Kr2, KryC, LeastM, KrR1 show, in one text. -/
import Derived.Test.YthmmakkldkjnlaaBun11
import Derived.Test.YthmmakkldkjnlaaBun15
import Derived.Test.YthmmakkldkjnlaaBun05
import Derived.Test.YthmmakkldkjnlaaBun14
import Derived.Test.YthmmakkldkjnlaaBun17
import Derived.Test.YthmmakkldkjnlaaBun10
import Derived.Deep.RegionHeld3
import Derived.Test.YthmmakkldkjnlaaBun07
import Derived.Test.YthmmakkldkjnlaaBun24
/- A right matrix's powers and polynomials, done to lists of numbers (in plain Lean; nothing of a program). -/
namespace Go.Proofs.Ythmmakkldkjnlaa
variable {p : Int} {n : Nat} {xs : List Int}

/-- a matrix done to a list so many times -/
def powL (p : Int) (n : Nat) (xs : List Int) : Nat → List Int → List Int
  | 0, v => v
  | k + 1, v => timesL p n n xs (powL p n xs k v)
/-- a polynomial of the matrix, done to a list -/
def pdoL (p : Int) (n : Nat) (xs f v : List Int) : List Int := tab n fun i => doF n (atF n xs) f.length (fun k => f.getD k 0) (atV v) i % p
theorem powL_len {v : List Int} (hv : v.length = n) : ∀ k, (powL p n xs k v).length = n
  | 0 => hv
  | _ + 1 => timesL_len _ _ _ _
theorem powL_rng (hp : 2 ≤ p) {v : List Int} (hv : Rng p v) : ∀ k, Rng p (powL p n xs k v)
  | 0 => hv
  | _ + 1 => timesL_rng hp _ _ _ _
theorem times_at {x : List Int} {i : Nat} (hi : i < n) : (timesL p n n xs x).getD i 0 = mapF n (atF n xs) (atV x) i % p := by
  unfold timesL
  rw [tab_get _ hi]; rfl
theorem powL_mod {v : List Int} : ∀ k, Eqv p n (atV (powL p n xs k v)) (itF n (atF n xs) k (atV v))
  | 0 => Eqv.refl _
  | k + 1 => fun i hi => by
    show (timesL p n n xs (powL p n xs k v)).getD i 0 % p = mapF n (atF n xs) (itF n (atF n xs) k (atV v)) i % p
    rw [times_at hi, Int.emod_emod]
    exact map_mod (powL_mod k) i
theorem powL_get (hp : 2 ≤ p) {v : List Int} (hv : Rng p v) {k i : Nat} (hi : i < n) : (powL p n xs k v).getD i 0 = itF n (atF n xs) k (atV v) i % p := by
  have h := powL_mod (p := p) (xs := xs) (v := v) k i hi
  rw [← h]
  have hr := (powL_rng (n := n) (xs := xs) hp hv k).getD hp i
  exact (mod_small hr.1 hr.2).symm
theorem powL_add (v : List Int) (a b : Nat) : powL p n xs (a + b) v = powL p n xs a (powL p n xs b v) := by
  induction a with
  | zero => rw [Nat.zero_add]; rfl
  | succ a ih => rw [Nat.add_right_comm]; show timesL p n n xs _ = timesL p n n xs _; rw [ih]
theorem pdoL_len (f v : List Int) : (pdoL p n xs f v).length = n := tab_len _ _
theorem pdoL_rng (hp : 2 ≤ p) (f v : List Int) : Rng p (pdoL p n xs f v) := tab_rng fun _ _ => mod_range _ hp
theorem pdoL_get {f v : List Int} {i : Nat} (hi : i < n) : (pdoL p n xs f v).getD i 0 = doF n (atF n xs) f.length (fun k => f.getD k 0) (atV v) i % p := tab_get _ hi
theorem doF_pol (f : List Int) (A : Nat → RowF) (v : RowF) : Eqv p n (doF n A f.length (pol p f).co v) (doF n A f.length (fun k => f.getD k 0) v) :=
  do_mod (Eqv.refl v) fun k _ => by rw [pol_co, Int.emod_emod]
theorem pdoL_ser {f v : List Int} {d : Nat} (hd : (pol p f).low d) : pdoL p n xs f v = tab n fun i => doF n (atF n xs) d (pol p f).co (atV v) i % p := by
  unfold pdoL
  refine tab_congr fun i hi => ?_
  rw [← doF_pol f (atF n xs) (atV v) i hi, do_same (pol_low f) hd]
theorem pdoL_kil {f v : List Int} : pdoL p n xs f v = List.replicate n 0 ↔ Kil p n (atF n xs) (pol p f) (atV v) := by
  rw [pdoL_ser (pol_low f)]
  constructor
  · intro h
    refine ⟨f.length, pol_low f, fun i hi => ?_⟩
    have := congrArg (fun l => l.getD i 0) h
    simp only [tab_get _ hi, replicate_get] at this
    exact this
  · intro h
    refine list_ext (by rw [tab_len, List.length_replicate]) fun i hi => ?_
    rw [tab_len] at hi
    rw [tab_get _ hi, replicate_get, h.at_ (pol_low f) i hi]
theorem pdoL_at {f v : List Int} : Eqv p n (atV (pdoL p n xs f v)) (doF n (atF n xs) f.length (pol p f).co (atV v)) := fun i hi => by
  unfold atV
  rw [pdoL_get hi, Int.emod_emod]
  exact (doF_pol f _ _ i hi).symm
/-- a sum does the sum -/
theorem pdoL_add {f g s v : List Int} (h : pol p s = pol p f + pol p g) {i : Nat} (hi : i < n) : (pdoL p n xs s v).getD i 0 = ((pdoL p n xs f v).getD i 0 + (pdoL p n xs g v).getD i 0) % p := by
  have lf := (pol_low (p := p) f).mono (show f.length ≤ f.length + g.length by omega)
  have lg := (pol_low (p := p) g).mono (show g.length ≤ f.length + g.length by omega)
  rw [pdoL_ser lf, pdoL_ser lg, pdoL_ser (f := s) (d := f.length + g.length) (by rw [h]; exact lf.add lg), tab_get _ hi, tab_get _ hi, tab_get _ hi, ma_l, ma_r, h]
  unfold doF
  rw [← sm_add]
  exact sm_mod fun k _ => by rw [Ser.add_co, mm_l, Int.add_mul]
/-- a product does one behind the other -/
theorem pdoL_mul {f g t v : List Int} (h : pol p t = pol p f * pol p g) : pdoL p n xs t v = pdoL p n xs f (pdoL p n xs g v) := by
  rw [pdoL_ser (f := t) (d := f.length + g.length) (by rw [h]; exact ((pol_low f).mul (pol_low g)).mono (by omega)), pdoL_ser (pol_low f), h]
  refine tab_congr fun i hi => ?_
  rw [do_mul (pol_low f) (pol_low g) (atV v) i hi]
  exact (do_mod pdoL_at (fun _ _ => rfl) i hi).symm
/-- x does the matrix -/
theorem pdoL_x {v : List Int} : pdoL p n xs [0, 1] v = timesL p n n xs v :=
  list_ext (by rw [pdoL_len, timesL_len]) fun i hi => by
    rw [pdoL_len] at hi
    rw [pdoL_get hi, times_at hi]
    show (0 + 0 * _ + 1 * mapF n (atF n xs) (atV v) i) % p = _
    rw [Int.zero_mul, Int.zero_add, Int.zero_add, Int.one_mul]
/-- from the greatest power down -/
theorem doF_horner (A : Nat → RowF) (d : Nat) (f : Nat → Int) (v : RowF) (k : Nat) : doF n A (d + 1) (fun j => f (k + j)) v = fun i => f k * v i + mapF n A (doF n A d (fun j => f (k + 1 + j)) v) i := by
  funext i
  unfold doF
  rw [sm_head, map_sum]
  show f (k + 0) * v i + _ = _
  refine congrArg _ (sm_congr fun j _ => ?_)
  show f (k + (j + 1)) * _ = _
  rw [show k + (j + 1) = k + 1 + j by omega]
  rfl
/-- what is done by the powers from k on -/
def fromL (p : Int) (n : Nat) (xs f v : List Int) (k : Nat) : List Int := tab n fun i => doF n (atF n xs) (f.length - k) (fun j => f.getD (k + j) 0) (atV v) i % p
theorem fromL_zero (f v : List Int) : fromL p n xs f v 0 = pdoL p n xs f v := by
  unfold fromL pdoL
  refine tab_congr fun i _ => ?_
  rw [Nat.sub_zero]
  congr 2
  funext j
  rw [Nat.zero_add]
theorem fromL_end (f v : List Int) : fromL p n xs f v f.length = List.replicate n 0 := by
  unfold fromL
  refine list_ext (by rw [tab_len, List.length_replicate]) fun i hi => ?_
  rw [tab_len] at hi
  rw [tab_get _ hi, replicate_get, Nat.sub_self]
  exact Int.zero_emod p
theorem fromL_len (f v : List Int) (k : Nat) : (fromL p n xs f v k).length = n := tab_len _ _
theorem fromL_rng (hp : 2 ≤ p) (f v : List Int) (k : Nat) : Rng p (fromL p n xs f v k) := tab_rng fun _ _ => mod_range _ hp
theorem fromL_step {f v : List Int} {k i : Nat} (hk : k < f.length) (hi : i < n) : (fromL p n xs f v k).getD i 0 = ((timesL p n n xs (fromL p n xs f v (k + 1))).getD i 0 + f.getD k 0 * v.getD i 0 % p) % p := by
  unfold fromL
  rw [tab_get _ hi, times_at hi, ma_l, ma_r, show f.length - k = f.length - (k + 1) + 1 by omega, doF_horner (atF n xs) _ (fun j => f.getD j 0)]
  show (f.getD k 0 * v.getD i 0 + _) % p = _
  rw [Int.add_comm, Int.add_emod, Int.add_emod (mapF _ _ _ _)]
  refine congrArg (fun z => (z + _) % p) (map_mod (fun j hj => ?_) i)
  show _ = (tab n _).getD j 0 % p
  rw [tab_get _ hj, Int.emod_emod]

/-! ### own polynomials, as lists -/
/-- a vector's own polynomial -/
def OwnL (p : Int) (n : Nat) (xs v g : List Int) : Prop := IsOwn p n (atF n xs) (fun u => u = atV v) g
/-- a matrix's own polynomial -/
def MinL (p : Int) (n : Nat) (xs h : List Int) : Prop := IsMin p n (atF n xs) h
def unitL (n i : Nat) : List Int := tab n fun k => if k = i then 1 else 0
theorem unitL_at {i : Nat} : Eqv p n (atV (unitL n i)) (uniF i) := fun j hj => by
  unfold atV unitL uniF
  rw [tab_get _ hj]
theorem OwnL.any (hp : HasInv p) (n : Nat) (xs v : List Int) : ∃ g, OwnL p n xs v g := IsOwn.any hp _
theorem MinL.any (hp : HasInv p) (n : Nat) (xs : List Int) : ∃ h, MinL p n xs h := IsOwn.any hp _
theorem OwnL.unit {i : Nat} {g : List Int} (h : OwnL p n xs (unitL n i) g) : IsOwn p n (atF n xs) (fun u => u = uniF i) g :=
  ⟨h.isp, h.ne, h.mon, fun v hv => by
    have := h.kil _ rfl
    rw [hv]; exact this.congr unitL_at.symm, fun f hf hk => h.dvd f hf fun v hv => by
    rw [hv]; exact (hk _ rfl).congr unitL_at⟩
end Go.Proofs.Ythmmakkldkjnlaa
/- A vector's own polynomial, found as what a matrix of its powers takes to 0, or as what makes the last power (in plain Lean; nothing of a program). -/
namespace Go.Proofs.Ythmmakkldkjnlaa
variable {p : Int} {n : Nat} {xs C v : List Int}

/-- the columns are the powers -/
def PowC (p : Int) (n : Nat) (xs v C : List Int) : Prop := ∀ i k, i < n → k < n → C.getD (i * n + k) 0 = (powL p n xs k v).getD i 0
theorem PowC.app (h : PowC p n xs v C) (hp : 2 ≤ p) (hv : Rng p v) (z : Nat → Int) {i : Nat} (hi : i < n) : appF n (rowOf n C) z i % p = doF n (atF n xs) n z (atV v) i % p := by
  unfold appF doF
  refine sm_mod fun k hk => ?_
  rw [show (rowOf n C i).getD k 0 = C.getD (i * n + k) 0 from tab_get _ hk, h i k hi hk, powL_get hp hv hi, mm_l, Int.mul_comm]
/-- what is taken to 0 by all rows is 0 by all rests -/
theorem rest_zero {m : Nat} {R : Nat → List Int} {st : ElE} (hp : HasInv p) (h : ElOk p n R m st) {y : Nat → Int} (hy : ∀ i, i < m → appF n R y i % p = 0) {k : Nat} (hk : k < st.U.length) : (sm n fun j => (st.U.getD k []).getD j 0 * y j) % p = 0 := by
  obtain ⟨c, hc⟩ := (h.bas hp).own k hk
  have e1 : (sm n fun j => (st.U.getD k []).getD j 0 * y j) % p = (sm n fun j => (sm m fun i => c i * lf (R i) j) * y j) % p := sm_mod fun j hj => by
    rw [← mm_l, show (st.U.getD k []).getD j 0 % p = (sm m fun i => c i * lf (R i) j) % p from hc j hj, mm_l]
  rw [e1, sm_congr (g := fun j => sm m fun i => c i * (lf (R i) j * y j)) fun j _ => by rw [← sm_mul_r]; exact sm_congr fun i _ => Int.mul_assoc _ _ _, sm_comm]
  refine sm_mz fun i hi => ?_
  rw [sm_mul]
  exact mz_mul (hy i hi) _
/-- no own column is so far on as the own polynomial's degree -/
theorem PowC.cols (hC : PowC p n xs v C) (ok : MatOk p n n C) (hf : Fld p) (hv : Rng p v) {g : List Int} (hg : OwnL p n xs v g) : ∀ j, j ∈ (takeL p n n C).cols → j < g.length - 1 := by
  have hp := (rightB_true ok.hp).1
  have h := takeL_ok (m := n) (n := n) hp hf ok.hx
  intro j hj
  refine Classical.byContradiction fun hlt => ?_
  have hg0 := List.length_pos_iff.2 hg.ne
  obtain ⟨k, hk, e⟩ := List.getElem_of_mem hj
  have hku : k < (takeL p n n C).U.length := by rw [← h.lk]; exact hk
  have e' : (takeL p n n C).cols.getD k 0 = j := by rw [List.getD, List.getElem?_eq_getElem hk]; exact e
  obtain ⟨r1, r2, r3, r4, r5, r6⟩ := h.row k hku
  rw [e'] at r3 r5 r6
  -- x to a power, times the own polynomial, is 1 at j and 0 behind
  have hk0 : Kil p n (atF n xs) (Ser.up (j - (g.length - 1)) (pol p g)) (atV v) := by
    have h1 := (hg.kil _ rfl).mul (q := Ser.up (j - (g.length - 1)) 1) ⟨_, (Ser.low_C 1).up _⟩
    rwa [Ser.up_mul, Ser.one_mul] at h1
  have hl : (Ser.up (j - (g.length - 1)) (pol p g)).low (j + 1) := ((pol_low g).up _).mono (by omega)
  have htop : (Ser.up (j - (g.length - 1)) (pol p g)).co j = 1 := by
    rw [Ser.up_co, if_neg (by omega), show j - (j - (g.length - 1)) = g.length - 1 by omega, hg.isp.rng.co]
    exact hg.mon
  have hz := rest_zero (hf.has hp) h (y := (Ser.up (j - (g.length - 1)) (pol p g)).co) (fun i hi => by
    rw [hC.app hp hv _ hi]
    exact hk0.at_ (hl.mono (by omega)) i hi) hku
  rw [sm_congr (g := fun t => if t = j then ((takeL p n n C).U.getD k []).getD t 0 else 0) fun t _ => by
    rcases Nat.lt_trichotomy t j with c | c | c
    · rw [r5 t c, if_neg (by omega), Int.zero_mul]
    · subst c; rw [htop, if_pos rfl, Int.mul_one]
    · rw [hl t (by omega), if_neg (by omega), Int.mul_zero], sm_single (fun t => ((takeL p n n C).U.getD k []).getD t 0) r3] at hz
  have hr := r2.getD hp j
  rw [mod_small hr.1 hr.2] at hz
  exact r6 hz
/-- what is taken to 0 is the own polynomial, and noughts -/
theorem PowC.kernel (hC : PowC p n xs v C) (ok : MatOk p n n C) (hf : Fld p) (hv : Rng p v) {g x : List Int} (hg : OwnL p n xs v g) (hx : IsK p n n C x) : trimL x = g := by
  have hp := (rightB_true ok.hp).1
  have hg0 := List.length_pos_iff.2 hg.ne
  have hcol := hC.cols ok hf hv hg
  have hlen := hg.len (hf.has hp)
  obtain ⟨c, hce⟩ : ∃ c, freeC n (takeL p n n C).cols = c := ⟨_, rfl⟩
  have hfree := hx.free
  have hoff := hx.off
  rw [hce] at hfree hoff
  have hkil : Kil p n (atF n xs) (pol p x) (atV v) := ⟨n, by rw [← hx.len]; exact pol_low x, fun i hi => by
    rw [← hC.app hp hv _ hi]
    have h1 := times_get (p := p) (n := n) (xs := C) (x := x) hi
    rw [hx.sol, replicate_get] at h1
    rw [h1]
    exact app_mod (fun j _ => by rw [hx.rng.co]; rfl) i⟩
  have hle : c ≤ g.length - 1 := by
    refine Classical.byContradiction fun hn => ?_
    have h1 := freeC_low (n := n) (cols := (takeL p n n C).cols) (j := g.length - 1) (by rw [hce]; omega)
    have := hcol _ h1
    omega
  have hx0 : ∀ j, g.length - 1 ≤ j → j ≠ c → x.getD j 0 = 0 := fun j hj hne => by
    rcases Nat.lt_or_ge j n with q | q
    · exact hoff j q (fun hm => by have := hcol j hm; omega) hne
    · exact getD_over (by rw [hx.len]; exact q)
  have hcs : c = g.length - 1 := by
    refine Classical.byContradiction fun hn => ?_
    have h0 := hg.less hp (f := pol p x) (fun k hk => by rw [hx.rng.co]; exact hx0 k hk (by omega)) fun u hu => hu ▸ hkil
    have h1 : (pol p x).co c = 1 := by rw [hx.rng.co]; exact hfree
    rw [h0, Ser.zero_co] at h1
    omega
  have he := hg.eq hp (f := pol p x) (fun k hk => by rw [hx.rng.co]; exact hx0 k (by omega) (by omega)) (by rw [← hcs, hx.rng.co]; exact hfree) fun u hu => hu ▸ hkil
  have ht := trimL_pol hx.rng
  exact ht.1.inj hg.isp (by rw [ht.2, he])
/-- if all columns are own, the own polynomial has the full degree, and the last power's numbers, each taken from 0 -/
theorem PowC.full (hC : PowC p n xs v C) (ok : MatOk p n n C) (hf : Fld p) (hv : Rng p v) {g : List Int} (hg : OwnL p n xs v g) (hc : ¬ freeC n (takeL p n n C).cols < n) : g.length = n + 1 := by
  have hp := (rightB_true ok.hp).1
  have hlen := hg.len (hf.has hp)
  have hg0 := List.length_pos_iff.2 hg.ne
  refine Classical.byContradiction fun hn => ?_
  have hcol := hC.cols ok hf hv hg
  have := hcol (g.length - 1) (freeC_low (n := n) (by omega))
  omega
theorem PowC.sol (hC : PowC p n xs v C) (ok : MatOk p n n C) (hf : Fld p) (hv : Rng p v) (hvl : v.length = n) {g : List Int} (hg : OwnL p n xs v g) (hl : g.length = n + 1) : ∃ z, IsX p n n C (powL p n xs n v) z ∧ (tab n fun k => (0 - z.getD k 0) % p) ++ [1] = g := by
  have hp := (rightB_true ok.hp).1
  have hkil := (hg.kil _ rfl).at_ (d := n + 1) (by rw [← hl]; exact pol_low g)
  have h1 : (pol p g).co n = 1 := by
    rw [hg.isp.rng.co]
    have := hg.mon
    unfold lead at this
    rwa [hl, Nat.add_sub_cancel] at this
  have happ : ∀ i, i < n → appF n (rowOf n C) (fun k => -(pol p g).co k) i % p = atV (powL p n xs n v) i % p := fun i hi => by
    rw [hC.app hp hv _ hi, powL_mod n i hi]
    have h2 := hkil i hi
    have e : doF n (atF n xs) n (fun k => -(pol p g).co k) (atV v) i = -doF n (atF n xs) n (pol p g).co (atV v) i := by
      unfold doF
      rw [← sm_neg]
      exact sm_congr fun k _ => Int.neg_mul _ _
    rw [e, mz_sub]
    have h3 : doF n (atF n xs) (n + 1) (pol p g).co (atV v) i = doF n (atF n xs) n (pol p g).co (atV v) i + itF n (atF n xs) n (atV v) i := by
      show _ + (pol p g).co n * _ = _
      rw [h1, Int.one_mul]; rfl
    rw [h3] at h2
    have h4 := mz_neg h2
    rwa [show -(doF n (atF n xs) n (pol p g).co (atV v) i + itF n (atF n xs) n (atV v) i) = -doF n (atF n xs) n (pol p g).co (atV v) i - itF n (atF n xs) n (atV v) i by omega] at h4
  obtain ⟨z, hz⟩ := IsX.of ok hf (b := powL p n xs n v) (by rw [powL_len hvl n]) (powL_rng hp hv n) happ
  refine ⟨z, hz, ?_⟩
  have hz1 : ∀ i, i < n → itF n (atF n xs) n (atV v) i % p = (sm n fun k => z.getD k 0 * itF n (atF n xs) k (atV v) i) % p := fun i hi => by
    have h2 := times_get (p := p) (n := n) (xs := C) (x := z) hi
    rw [hz.sol, hC.app hp hv _ hi, powL_get hp hv hi] at h2
    exact h2
  have hz2 := hg.eq hp (f := topS p n fun k => z.getD k 0) (by rw [hl]; exact topS_low _ _) (by rw [hl, Nat.add_sub_cancel]; exact topS_top hp _ _) fun u hu => hu ▸ topS_kil hz1
  have hlen : ((tab n fun k => (0 - z.getD k 0) % p) ++ [1]).length = n + 1 := by rw [List.length_append, tab_len]; rfl
  refine list_ext (by rw [hlen, hl]) fun j hj => ?_
  rw [hlen] at hj
  rw [← hg.isp.rng.co, ← hz2]
  show _ = (if j = n then 1 else if j < n then - z.getD j 0 else 0) % p
  rcases Nat.lt_or_ge j n with c | c
  · rw [if_neg (by omega), if_pos c, getD_app _ _ _ (by rw [tab_len]; exact c), tab_get _ c, Int.zero_sub]
  · obtain rfl : j = n := by omega
    have e1 : ((tab j fun k => (0 - z.getD k 0) % p) ++ [1]).getD j 0 = 1 := getD_end _ _ _ (tab_len _ _).symm
    rw [if_pos rfl, e1]
    exact (mod_small (by omega) (by omega)).symm
end Go.Proofs.Ythmmakkldkjnlaa
/- What the first look of layer 9's laws speaks of (in plain Lean; nothing of a program). -/
namespace Go.Proofs.Ythmmakkldkjnlaa

def xs9 : List Int := [0, 1, 6, 0]
theorem ok9 : MatOk 7 2 2 xs9 := ⟨by decide, by unfold Rng xs9; decide, by decide, by decide, rfl⟩
theorem min9 : MinL 7 2 xs9 [1, 0, 1] := by
  have h := IsOwn.of (p := 7) (n := 2) (A := atF 2 xs9) (V := fun v => ∃ i, i < 2 ∧ v = uniF i) (s := 2) (g := pol 7 [1, 0, 1]) (by decide) (pol_low _) (by decide) (fun v ⟨i, hi, e⟩ => by
      subst e
      refine Kil.congr (u := atV (unitL 2 i)) (pdoL_kil.1 ?_) unitL_at.symm
      have : i = 0 ∨ i = 1 := by omega
      rcases this with rfl | rfl
      · decide
      · decide) fun f hf hk => by
      have h0 := (hk _ ⟨0, by omega, rfl⟩).at_ hf
      have h1 := h0 0 (by omega)
      have h2 := h0 1 (by omega)
      simp [doF, sm, itF, mapF, atF, uniF, xs9] at h1 h2
      refine Ser.ext_ fun k => ?_
      rw [Ser.zero_co]
      have e0 := f.ok 0; have e1 := f.ok 1
      rcases Nat.lt_or_ge k 2 with c | c
      · have : k = 0 ∨ k = 1 := by omega
        rcases this with rfl | rfl
        · omega
        · omega
      · exact hf k c
  exact h
theorem own9 : OwnL 7 2 xs9 [0, 0] [1] := by
  have h := IsOwn.of (p := 7) (n := 2) (A := atF 2 xs9) (V := fun v => v = atV [0, 0]) (s := 0) (g := pol 7 [1]) (by decide) (pol_low _) (by decide) (fun v e => by
      subst e
      exact pdoL_kil.1 (by decide)) fun f hf _ => hf.zero
  exact h
end Go.Proofs.Ythmmakkldkjnlaa
/- Package krylov: what is asked of a matrix and a vector; numbers that are taken from 0. -/
namespace Go.Proofs.Ythmmakkldkjnlaa
open Go.RowKit Go.Maps

def squareB (p r c : Int) (xs : List Int) : Bool := decide (r = c) && matB p r c xs
theorem squareB_ok {p : Int} {n : Nat} {xs : List Int} (ok : MatOk p n n xs) : squareB p n n xs = true := by
  unfold squareB
  rw [decide_eq_true rfl, ok.b]; rfl
theorem squareB_of {p r c : Int} {xs : List Int} (hx : U64s xs) (h : squareB p r c xs = true) : ∃ n : Nat, r = n ∧ c = n ∧ MatOk p n n xs := by
  unfold squareB at h
  simp only [Bool.and_eq_true, decide_eq_true_eq] at h
  obtain ⟨m, n, e1, e2, ok⟩ := MatOk.of hx h.2
  obtain rfl : m = n := by have := h.1; omega
  exact ⟨m, e1, e2, ok⟩
set_option maxHeartbeats 1000000 in
theorem krSquare (p r c : Int) (v : Value) (xs : List Int) (w : World) (h0 : 0 ≤ p) (h1 : p ≤ 18446744073709551615) (hv : Ints .u64 w v xs) (hx : U64s xs) :
    Calls Try.prog 37 #[.int .u64 p, matV r c v] w (Ret (.bool (squareB p r c xs)) w) := by
  have C1 := hid fun (W : World) (hW : Ext w W) => mxRight p r c v xs W h0 h1 (hv.ext hW) hx
  obtain ⟨a, cap, rfl, k1, k2, k3⟩ := hv
  clear k3 hx
  unfold squareB
  unfold matV at C1
  unfold matV
  have hA := hid (Blk.new w 25 #[.int .i64 r, .int .i64 c, .slice a xs.length cap])
  obtain ⟨b0, b1, b2⟩ := hA.out.at3
  obtain ⟨B, hB⟩ : ∃ B, matB p r c xs = B := ⟨_, rfl⟩
  rw [hB] at C1 ⊢
  clear hB
  by_cases e : r = c
  · have e0 : (r == c) = true := by simp [e]
    rw [decide_eq_true e]
    clear e
    go_enter Try.func37, Try.ntmps37
    go_wp2_with (go_at_call 48; refine (C1.out _ (by repeat (first | exact Ext.refl _ | assumption | refine Ext.drew ?_ | refine Ext.drewN ?_ _ | refine Ext.alloc ?_ _ | refine Ext.trans ?_ (by assumption)))).mono ?_; rintro _ w1 ⟨rfl, x1⟩)
    go_ret
    exact ⟨ret_bool (by simp), Ext.trans (by repeat (first | exact Ext.refl _ | assumption | refine Ext.drew ?_ | refine Ext.drewN ?_ _ | refine Ext.alloc ?_ _ | refine Ext.trans ?_ (by assumption))) x1⟩
  · have e0 : (r == c) = false := by simp [e]
    rw [decide_eq_false e]
    clear e
    go_enter Try.func37, Try.ntmps37
    go_wp2_with fail
    go_ret
    exact ⟨ret_bool (by simp), (by repeat (first | exact Ext.refl _ | assumption | refine Ext.drew ?_ | refine Ext.drewN ?_ _ | refine Ext.alloc ?_ _ | refine Ext.trans ?_ (by assumption)))⟩

def besideB (p r c : Int) (xs b : List Int) : Bool := squareB p r c xs && vecB p r b
theorem besideB_ok {p : Int} {n : Nat} {xs b : List Int} (ok : MatOk p n n xs) (hb : b.length = n) (hr : Rng p b) : besideB p n n xs b = true := by
  unfold besideB
  rw [squareB_ok ok, vecB_yes ok.hp hr hb]; rfl
theorem besideB_of {p r c : Int} {xs b : List Int} (hx : U64s xs) (hb : U64s b) (h : besideB p r c xs b = true) : ∃ n : Nat, r = n ∧ c = n ∧ MatOk p n n xs ∧ b.length = n ∧ Rng p b := by
  unfold besideB at h
  simp only [Bool.and_eq_true] at h
  obtain ⟨n, e1, e2, ok⟩ := squareB_of hx h.1
  obtain ⟨-, h2, h3⟩ := vecB_true hb h.2
  exact ⟨n, e1, e2, ok, by omega, h2⟩
set_option maxHeartbeats 1000000 in
theorem krBeside (p r c : Int) (v u : Value) (xs b : List Int) (w : World) (h0 : 0 ≤ p) (h1 : p ≤ 18446744073709551615) (hv : Ints .u64 w v xs) (hx : U64s xs) (hu : Ints .u64 w u b) (hb : U64s b) :
    Calls Try.prog 24 #[.int .u64 p, matV r c v, u] w (Ret (.bool (besideB p r c xs b)) w) := by
  have C1 := hid fun (W : World) (hW : Ext w W) => krSquare p r c v xs W h0 h1 (hv.ext hW) hx
  have C2 := hid fun (W : World) (hW : Ext w W) => has_any p u b W h0 h1 (hu.ext hW) hb
  obtain ⟨a, cap, rfl, k1, k2, k3⟩ := hv
  obtain ⟨a', cap', rfl, k1', k2', k3'⟩ := hu
  clear k3 k3' hx hb
  unfold besideB vecB
  unfold matV at C1
  unfold matV
  have hA := hid (Blk.new w 25 #[.int .i64 r, .int .i64 c, .slice a xs.length cap])
  obtain ⟨b0, b1, b2⟩ := hA.out.at3
  obtain ⟨B, hB⟩ : ∃ B, hasB p b = B := ⟨_, rfl⟩
  rw [hB] at C2 ⊢
  cases hS : squareB p r c xs
  · rw [hS] at C1
    clear hB hS
    go_enter Try.func24, Try.ntmps24
    go_wp2_with (go_at_call 37; refine (C1.out _ (by repeat (first | exact Ext.refl _ | assumption | refine Ext.drew ?_ | refine Ext.drewN ?_ _ | refine Ext.alloc ?_ _ | refine Ext.trans ?_ (by assumption)))).mono ?_; rintro _ w1 ⟨rfl, x1⟩)
    go_ret
    exact ⟨ret_bool (by simp), Ext.trans (by repeat (first | exact Ext.refl _ | assumption | refine Ext.drew ?_ | refine Ext.drewN ?_ _ | refine Ext.alloc ?_ _ | refine Ext.trans ?_ (by assumption))) x1⟩
  · rw [hS] at C1
    clear hB hS
    by_cases e : (b.length : Int) = r
    · have e0 : ((b.length : Int) == r) = true := by simp [e]
      rw [decide_eq_true e]
      clear e
      go_enter Try.func24, Try.ntmps24
      go_wp2_with (first
        | (go_at_call 37; refine (C1.out _ (by repeat (first | exact Ext.refl _ | assumption | refine Ext.drew ?_ | refine Ext.drewN ?_ _ | refine Ext.alloc ?_ _ | refine Ext.trans ?_ (by assumption)))).mono ?_; rintro _ w1 ⟨rfl, x1⟩; obtain ⟨d0, d1, d2⟩ := (hA.out.ext x1).at3)
        | (go_at_call 47; refine (C2.out _ (Ext.trans (by repeat (first | exact Ext.refl _ | assumption | refine Ext.drew ?_ | refine Ext.drewN ?_ _ | refine Ext.alloc ?_ _ | refine Ext.trans ?_ (by assumption))) x1)).mono ?_; rintro _ _ ⟨rfl, rfl⟩))
      go_ret
      exact ⟨ret_bool (by simp), Ext.trans (by repeat (first | exact Ext.refl _ | assumption | refine Ext.drew ?_ | refine Ext.drewN ?_ _ | refine Ext.alloc ?_ _ | refine Ext.trans ?_ (by assumption))) x1⟩
    · have e0 : ((b.length : Int) == r) = false := by simp [e]
      rw [decide_eq_false e]
      clear e
      go_enter Try.func24, Try.ntmps24
      go_wp2_with (go_at_call 37; refine (C1.out _ (by repeat (first | exact Ext.refl _ | assumption | refine Ext.drew ?_ | refine Ext.drewN ?_ _ | refine Ext.alloc ?_ _ | refine Ext.trans ?_ (by assumption)))).mono ?_; rintro _ w1 ⟨rfl, x1⟩; obtain ⟨d0, d1, d2⟩ := (hA.out.ext x1).at3)
      go_ret
      exact ⟨ret_bool (by simp), Ext.trans (by repeat (first | exact Ext.refl _ | assumption | refine Ext.drew ?_ | refine Ext.drewN ?_ _ | refine Ext.alloc ?_ _ | refine Ext.trans ?_ (by assumption))) x1⟩

/-- each number, taken from 0 -/
def negL (p : Int) (xs : List Int) : List Int := tab xs.length fun k => (0 - xs.getD k 0) % p
theorem negL_len (p : Int) (xs : List Int) : (negL p xs).length = xs.length := tab_len _ _
/-- numbers as a block's cells -/
theorem ints_at {l : List Int} {k : Nat} (h : k < l.length) : ((l.map (Value.int .u64)).toArray)[k]? = some (.int .u64 (l.getD k 0)) := by
  simp [List.getD, h]
theorem ints_set (l : List Int) (k : Nat) (x : Int) : ((l.map (Value.int .u64)).toArray).setIfInBounds k (.int .u64 x) = ((l.set k x).map (Value.int .u64)).toArray := by
  simp [List.map_set]
theorem made_cellsN (n : Nat) : (madeCells #[Value.int .u64 0] n) = ((List.replicate n (0 : Int)).map (Value.int .u64)).toArray := by
  simp [madeCells]
  apply Array.ext
  · simp
  · intro i h1 h2
    simp [Nat.mod_one]
theorem own_of_blk {w : World} {g base : Nat} {l : List Int} (h : Blk w g 22 (l.map (Value.int .u64)).toArray) (hb : base ≤ g) (hl : l.length ≤ 1000000) : w.ownsRow base 22 1 (.slice (some ⟨g, 0, none⟩) l.length l.length) l.length (l.map (Value.int .u64)) :=
  ⟨by simp, .inr ⟨g, l.length, _, rfl, hb, h, Nat.le_refl _, by unfold maxLen; omega, by simp, by have := List.take_of_length_le (l := l.map (Value.int .u64)) (i := l.length) (by simp); simpa using this⟩⟩
set_option maxRecDepth 100000 in
set_option maxHeartbeats 1000000 in
theorem krFrom0 (p : Int) (v : Value) (xs : List Int) (w : World) (hp : rightB p = true) (hv : Ints .u64 w v xs) (hx : Rng p xs) (hl : xs.length ≤ 64) :
    Calls Try.prog 36 #[.int .u64 p, v] w fun e w' => ∃ g, e = .returned (.slice (some ⟨g, 0, none⟩) xs.length xs.length) ∧ w'.ownsRow w.heap.size 22 1 (.slice (some ⟨g, 0, none⟩) xs.length xs.length) xs.length ((negL p xs).map (Value.int .u64)) ∧ Ext w w' := by
  have hp2 := rightB_true hp
  obtain ⟨a, cap, rfl, k1, k2, k3⟩ := hv
  have K3 := hid k3; have Hx := hid hx; have Hp := hid hp
  clear k3 hp hx
  obtain ⟨n, hn⟩ : ∃ n, xs.length = n := ⟨_, rfl⟩
  have Hn := hid hn
  rw [hn] at k1 K3 hl ⊢
  clear hn
  have hmk := make_ints (P := Try.prog) 23 22 .u64 8 (by omega) (by kernel_rfl) (by kernel_rfl) n n (Nat.le_refl _) (by omega)
  have hrow := hid (show Blk (w.alloc (.cells (madeCells #[Value.int .u64 0] n) 22)) w.heap.size 22 ((List.replicate n (0 : Int)).map (Value.int .u64)).toArray from by rw [← made_cellsN]; exact Blk.new _ _ _)
  have hrl := hid (List.length_replicate (n := n) (a := (0 : Int)))
  go_enter Try.func36, Try.ntmps36
  go_wp2_with fail
  obtain ⟨g, hg⟩ : ∃ g, w.heap.size = g := ⟨_, rfl⟩
  have hgw : w.heap.size ≤ g := by omega
  obtain ⟨w0, hw0⟩ : ∃ w0, w.alloc (.cells (madeCells #[Value.int .u64 0] n) 22) = w0 := ⟨_, rfl⟩
  have hx0 : Ext w w0 := hw0 ▸ (Ext.refl w).alloc _
  rw [hg, hw0] at hrow
  rw [hg, hw0]
  clear hg hw0 hmk
  go_loopw [13] (fun i wr => ∃ (k : Nat) (l : List Int), i = .int .i64 k ∧ k ≤ n ∧ Hid (l.length = n) ∧ Hid (∀ j, l.getD j 0 = if j < k then (0 - xs.getD j 0) % p else 0) ∧ Blk wr g 22 (l.map (Value.int .u64)).toArray ∧ Ext w wr) (fun i _ => n - (intOf i).toNat)
  case atStart => exact ⟨0, _, rfl, Nat.zero_le _, hrl, hid (fun j => by rw [replicate_get]; simp), hrow.out, hx0⟩
  case round =>
    obtain ⟨k, l, rfl, hk, hln, hl2, hrw, hxw⟩ := hrel
    clear hx0
    have Hrw := hid hrw
    clear hrw
    by_cases hlt : k < n
    · obtain ⟨b, off, rfl, hb, hcell⟩ := K3.out (by omega)
      have g1 := (hxw.cells _ _ hb).trans (hcell k hlt)
      have r1 := Hx.out.get (k := k) (by rw [Hn.out]; exact hlt)
      obtain ⟨y, ey⟩ : ∃ y, xs.getD k 0 = y := ⟨_, rfl⟩
      rw [ey] at g1 r1
      obtain ⟨r, er, r3, r4⟩ := name_mod (p := p) (0 - y) hp2.1
      have Er := hid er; have Ey := hid ey
      clear er ey hcell
      go_wp2_with fail
      refine (sub_as p 0 y r _ Hp.out (by omega) (by omega) r1.1 r1.2 Er.out).mono ?_
      rintro _ w3 ⟨rfl, x3⟩
      have g2 := (Hrw.out.ext x3).cell k
      rw [ints_at (by rw [hln.out]; exact hlt)] at g2
      have f2 := (Hrw.out.ext x3).frozen k
      go_wp2_with fail
      go_roundw
      case rel =>
        have hs := (Hrw.out.ext x3).set_ k (.int .u64 r)
        rw [ints_set] at hs
        refine ⟨k + 1, l.set k r, by go_num, by omega, hid (by rw [List.length_set]; exact hln.out), hid (fun j => ?_), hs, (hxw.trans x3).setCell (p := ⟨g, k, none⟩) hgw _⟩
        rw [set_get l k j r (by rw [hln.out]; omega), hl2.out]
        by_cases e : k = j
        · subst e
          rw [if_pos rfl, if_pos (by omega), Ey.out, Er.out]
        · rw [if_neg e]
          by_cases e2 : j < k
          · rw [if_pos e2, if_pos (by omega)]
          · rw [if_neg e2, if_neg (by omega)]
      case measure => simp [intOf]; omega
    · obtain rfl : n = k := by omega
      go_wp2_with fail
      go_ret
      have e : negL p xs = l := list_ext (by rw [negL_len, Hn.out, hln.out]) fun j hj => by
        rw [negL_len, Hn.out] at hj
        rw [hl2.out, if_pos hj]
        exact tab_get _ (by rw [Hn.out]; exact hj)
      have ho := own_of_blk Hrw.out hgw (by rw [hln.out]; omega)
      rw [hln.out] at ho
      exact ⟨g, rfl, e ▸ ho, hxw⟩
end Go.Proofs.Ythmmakkldkjnlaa
/- Package krylov: Powers. -/
namespace Go.Proofs.Ythmmakkldkjnlaa
open Go.RowKit Go.Maps

/-- so many of a list's powers -/
def powsL (p : Int) (n : Nat) (xs v : List Int) (many : Nat) : List (List Int) := (List.range many).map fun k => powL p n xs k v
theorem powsL_len (p : Int) (n : Nat) (xs v : List Int) (many : Nat) : (powsL p n xs v many).length = many := by simp [powsL]
theorem powsL_get {p : Int} {n many k : Nat} {xs v : List Int} (h : k < many) : (powsL p n xs v many).getD k [] = powL p n xs k v := by simp [powsL, List.getD, h]
/-- rows, and room for more -/
def roomS (us : List Value) (m : Nat) : Array Value := (us ++ List.replicate m (Value.slice none 0 0)).toArray
theorem roomS_get {us : List Value} {m j : Nat} (h : j < us.length) : (roomS us m)[j]? = some (us.getD j undef) := by
  simp only [roomS, List.getElem?_toArray]
  rw [List.getElem?_append_left h]
  simp [List.getD, h]
theorem roomS_room {us : List Value} {m j : Nat} (h1 : us.length ≤ j) (h : j < us.length + m) : (roomS us m)[j]? = some (.slice none 0 0) := by
  simp only [roomS, List.getElem?_toArray]
  rw [List.getElem?_append_right h1, List.getElem?_replicate, if_pos (by omega)]
theorem roomS_set {us : List Value} {m k : Nat} (h : us.length = k) (u : Value) : (roomS us (m + 1)).setIfInBounds k u = roomS (us ++ [u]) m := by
  subst h
  simp [roomS, List.replicate_succ]
theorem made_room (n : Nat) : (madeCells #[Value.slice none 0 0] n) = roomS [] n := by
  unfold roomS madeCells
  rw [Array.ext_iff]
  refine ⟨by simp, fun i h1 h2 => ?_⟩
  have e : i % 1 = 0 := by omega
  simp [e]
/-- rows of numbers in a block of slices: a list of numbers lies elsewhere -/
theorem room_apart {W : World} {g m : Nat} {t : TypeId} {us : List Value} (hB : Blk W g t (roomS us m)) (hu : ∀ j, j < us.length → ∃ a l c, us.getD j undef = .slice a l c) {v : Value} {xs : List Int} (hi : Ints .u64 W v xs) (hl : 0 < xs.length) : ∀ b, v.ownBlock = some b → b ≠ g := fun b hb e => by
  obtain ⟨a, cap, rfl, h1, h2, h3⟩ := hi
  obtain ⟨b', off, rfl, hb', hc⟩ := h3 hl
  have e1 : b' = b := by simpa [Value.ownBlock] using hb
  subst e1; subst e
  have hc0 := hc 0 hl
  rw [hB.cell] at hc0
  rcases Nat.lt_or_ge (off + 0) us.length with c | c
  · obtain ⟨a, l, c', e⟩ := hu _ c
    rw [roomS_get c, e] at hc0
    cases hc0
  · rcases Nat.lt_or_ge (off + 0) (us.length + m) with c' | c'
    · rw [roomS_room c c'] at hc0
      cases hc0
    · rw [roomS, List.getElem?_toArray, List.getElem?_eq_none (by simp; omega)] at hc0
      cases hc0
theorem Ints.setOther {k : IntKind} {w : World} {v : Value} {xs : List Int} (h : Ints k w v xs) {g : Nat} (hg : ∀ b, v.ownBlock = some b → b ≠ g) (i : Nat) (u : Value) : Ints k (w.setCell ⟨g, i, none⟩ u) v xs :=
  h.grown (setCell_grown w ⟨g, i, none⟩ u) fun b hb e => hg b hb (by injection e with e; exact e.symm)

set_option maxRecDepth 100000 in
set_option maxHeartbeats 1000000 in
theorem krPowers_no (p r c many : Int) (v u : Value) (xs b : List Int) (w : World) (h0 : 0 ≤ p) (h1 : p ≤ 18446744073709551615) (hv : Ints .u64 w v xs) (hx : U64s xs) (hu : Ints .u64 w u b) (hb : U64s b) (h : (decide (0 ≤ many ∧ many ≤ 200) && besideB p r c xs b) = false) :
    Calls Try.prog 6 #[.int .u64 p, matV r c v, u, .int .i64 many] w (Ret (.tuple #[.slice none 0 0, .int .i64 1]) w) := by
  have C1 := hid fun (W : World) (hW : Ext w W) => krBeside p r c v u xs b W h0 h1 (hv.ext hW) hx (hu.ext hW) hb
  obtain ⟨B, hB⟩ : ∃ B, besideB p r c xs b = B := ⟨_, rfl⟩
  rw [hB] at C1 h
  obtain ⟨a, cap, rfl, k1, k2, k3⟩ := hv
  clear k3 hx hb hu hB
  unfold matV at C1
  unfold matV
  by_cases e : many < 0
  · clear h C1
    go_enter Try.func6, Try.ntmps6
    go_wp2_with fail
    go_ret2
    exact ⟨rfl, (by repeat (first | exact Ext.refl _ | assumption | refine Ext.drew ?_ | refine Ext.drewN ?_ _ | refine Ext.alloc ?_ _ | refine Ext.trans ?_ (by assumption)))⟩
  · by_cases e2 : 200 < many
    · clear h C1
      go_enter Try.func6, Try.ntmps6
      go_wp2_with fail
      go_ret2
      exact ⟨rfl, (by repeat (first | exact Ext.refl _ | assumption | refine Ext.drew ?_ | refine Ext.drewN ?_ _ | refine Ext.alloc ?_ _ | refine Ext.trans ?_ (by assumption)))⟩
    · rw [decide_eq_true (by omega), Bool.true_and] at h
      subst h
      go_enter Try.func6, Try.ntmps6
      go_wp2_with (go_at_call 24; refine (C1.out _ (by repeat (first | exact Ext.refl _ | assumption | refine Ext.drew ?_ | refine Ext.drewN ?_ _ | refine Ext.alloc ?_ _ | refine Ext.trans ?_ (by assumption)))).mono ?_; rintro _ w1 ⟨rfl, x1⟩)
      go_ret2
      exact ⟨rfl, Ext.trans (by repeat (first | exact Ext.refl _ | assumption | refine Ext.drew ?_ | refine Ext.drewN ?_ _ | refine Ext.alloc ?_ _ | refine Ext.trans ?_ (by assumption))) x1⟩

/-- what Powers answers -/
def RetPows (ls : List (List Int)) (w : World) (e : Ending) (w' : World) : Prop := ∃ (g : Nat) (us : List Value), e = .returned (.tuple #[.slice (some ⟨g, 0, none⟩) ls.length ls.length, .int .i64 0]) ∧ us.length = ls.length ∧ Blk w' g 23 us.toArray ∧ (∀ j, j < ls.length → Ints .u64 w' (us.getD j undef) (ls.getD j [])) ∧ Ext w w'
set_option maxRecDepth 100000 in
set_option maxHeartbeats 1000000 in
theorem krPowers (p : Int) (n many : Nat) (v u : Value) (xs b : List Int) (w : World) (ok : MatOk p n n xs) (hv : Ints .u64 w v xs) (hu : Ints .u64 w u b) (hb : b.length = n) (hr : Rng p b) (hmany : many ≤ 200) :
    Calls Try.prog 6 #[.int .u64 p, matV n n v, u, .int .i64 many] w (RetPows (powsL p n xs b many) w) := by
  have hp2 := rightB_true ok.hp
  have C1 := hid fun (W : World) (hW : Ext w W) => krBeside p n n v u xs b W (by omega) (by omega) (hv.ext hW) ok.u64 (hu.ext hW) (hr.u64 hp2.2)
  rw [besideB_ok ok hb hr] at C1
  have C2 := hid fun (W : World) (z : Value) (zs : List Int) (hW : Ext w W) (hz : Ints .u64 W z zs) (hr : Rng p zs) (hl : zs.length = n) => mxTimes_yes p n n v z xs zs W ok (hv.ext hW) hz hr hl
  have C3 := hid fun (W : World) (hW : Ext w W) => clone_any u b W (hu.ext hW) (by have := ok.hm; omega)
  have hn := ok.hn
  have PL := hid fun (k : Nat) => powL_len (p := p) (xs := xs) hb k
  have PR := hid fun (k : Nat) => powL_rng (n := n) (xs := xs) hp2.1 hr k
  obtain ⟨F, hF⟩ : ∃ F : Nat → List Int, (fun k => powL p n xs k b) = F := ⟨_, rfl⟩
  have HF := hid (fun k => (congrFun hF k : powL p n xs k b = F k))
  have PG := hid fun (k : Nat) (h : k < many) => (powsL_get (p := p) (n := n) (xs := xs) (v := b) h).trans (HF.out k)
  have PN := hid (powsL_len p n xs b many)
  obtain ⟨L, hL⟩ : ∃ L, powsL p n xs b many = L := ⟨_, rfl⟩
  rw [hL] at PG PN ⊢
  unfold RetPows
  rw [PN.out]
  simp only [HF.out] at PL PR
  have PS := hid (show ∀ k, F (k + 1) = timesL p n n xs (F k) from fun k => by rw [← HF.out, ← HF.out]; rfl)
  have P0 := hid (show F 0 = b from (HF.out 0).symm)
  obtain ⟨a, cap, rfl, k1, k2, k3⟩ := hv
  obtain ⟨a', cap', rfl, k1', k2', k3'⟩ := hu
  rw [hb] at C1 C3 k1'
  rw [hb]
  unfold matV at C1 C2
  unfold matV
  have hA := hid (Blk.new w 25 #[.int .i64 (n : Int), .int .i64 (n : Int), .slice a xs.length cap])
  have hmk := make_rows (P := Try.prog) 28 23 24 (by omega) (by kernel_rfl) (by kernel_rfl) many many (Nat.le_refl _) (by omega)
  clear k3 k3' ok hr hF hL hb
  go_enter Try.func6, Try.ntmps6
  go_wp2_with (go_at_call 24; refine (C1.out _ (by repeat (first | exact Ext.refl _ | assumption | refine Ext.drew ?_ | refine Ext.drewN ?_ _ | refine Ext.alloc ?_ _ | refine Ext.trans ?_ (by assumption)))).mono ?_; rintro _ w1 ⟨rfl, x1⟩)
  obtain ⟨g, hg⟩ : ∃ g, w1.heap.size = g := ⟨_, rfl⟩
  have x0 : Ext w w1 := Ext.trans (by repeat (first | exact Ext.refl _ | assumption | refine Ext.drew ?_ | refine Ext.drewN ?_ _ | refine Ext.alloc ?_ _ | refine Ext.trans ?_ (by assumption))) x1
  have hA1 := hid (hA.out.ext x1)
  obtain ⟨w2, hw2⟩ : ∃ w2, w1.alloc (.cells (madeCells #[Value.slice none 0 0] many) 23) = w2 := ⟨_, rfl⟩
  have hB0 : Blk w2 g 23 (roomS [] many) := by rw [← made_room, ← hw2, ← hg]; exact Blk.new _ _ _
  have x2 : Ext w1 w2 := hw2 ▸ (Ext.refl w1).alloc _
  have hs2 : w2.heap.size = g + 1 := by rw [← hw2, ← hg]; simp
  rw [hg, hw2]
  clear hw2 hmk
  go_loopw [29] (fun i wr => ∃ (k : Nat) (us : List Value), i = .int .i64 k ∧ k ≤ many ∧ Hid (us.length = k) ∧ Hid (Blk wr g 23 (roomS us (many - k))) ∧ Hid (∀ j, j < k → Ints .u64 wr (us.getD j undef) (F j) ∧ ∃ a l c, us.getD j undef = .slice a l c) ∧ Ext w1 wr) (fun i _ => many - (intOf i).toNat)
  case atStart => exact ⟨0, [], rfl, Nat.zero_le _, hid rfl, hid hB0, hid (fun j hj => absurd hj (Nat.not_lt_zero _)), x2⟩
  case round =>
    obtain ⟨k, us, rfl, hk, hul, hB, hus, hxw⟩ := hrel
    clear hB0 x2
    have hgw : w1.heap.size ≤ g := by omega
    by_cases hlt : k < many
    · have hmk : many - k = many - (k + 1) + 1 := by omega
      rw [hmk] at hB
      have c0 := hB.out.cell k
      rw [roomS_room (by rw [hul.out]; exact Nat.le_refl _) (by rw [hul.out]; omega)] at c0
      have f0 := hB.out.frozen k
      clear hmk
      have KEY := hid fun (W : World) (u : Value) (hW : Ext wr W) (hi : Ints .u64 W u (F k)) (hs : ∃ a l c, u = .slice a l c) => (show Blk (W.setCell ⟨g, k, none⟩ u) g 23 (roomS (us ++ [u]) (many - (k + 1))) ∧ (∀ j, j < k + 1 → Ints .u64 (W.setCell ⟨g, k, none⟩ u) ((us ++ [u]).getD j undef) (F j) ∧ ∃ a l c, (us ++ [u]).getD j undef = .slice a l c) from by
        have hBW := hB.out.ext hW
        refine ⟨?_, fun j hj => ?_⟩
        · have := hBW.set_ k u
          rwa [roomS_set hul.out] at this
        · have hap : ∀ (z : Value) (j : Nat), Ints .u64 W z (F j) → ∀ b, z.ownBlock = some b → b ≠ g := fun z j hz => room_apart hBW (fun j hj => (hus.out j (by rw [← hul.out]; exact hj)).2) hz (by rw [PL.out]; omega)
          rcases Nat.lt_or_ge j k with c | c
          · rw [getD_app _ _ _ (by rw [hul.out]; exact c)]
            have h1 := (hus.out j c).1.ext hW
            exact ⟨h1.setOther (hap _ j h1) k u, (hus.out j c).2⟩
          · obtain rfl : j = k := by omega
            rw [getD_end _ _ _ hul.out.symm]
            exact ⟨hi.setOther (hap _ j hi) j u, hs⟩)
      rcases Nat.eq_zero_or_pos k with hk0 | hk0
      · have b0 : ((k : Int) == 0) = true := by rw [hk0]; rfl
        have FK : F k = b := by rw [hk0]; exact P0.out
        have HFK := hid FK
        have HK0 := hid hk0
        clear hk0 FK
        have FKL := hid (show (F k).length = n from PL.out k)
        go_wp2_with (go_at_call 25; refine (C3.out _ (x0.trans hxw)).mono ?_; rintro _ w5 ⟨a5, c5, rfl, q1, q2, q3, x5⟩
                     have d0 := (x5.cells _ _ (cell_lt c0)).trans c0
                     have e0 := (hB.out.ext x5).frozen k)
        have hi5 : Ints .u64 w5 (.slice a5 n c5) (F k) := by
          rw [HFK.out]
          have hbl : b.length = n := by rw [← HFK.out]; exact FKL.out
          obtain ⟨g5, rfl, q4, q5⟩ := q3 (by omega)
          exact q5.ints' hbl q1 q2
        have hkey := KEY.out w5 (.slice a5 n c5) x5 hi5 ⟨_, _, _, rfl⟩
        go_roundw
        case rel => exact ⟨k + 1, us ++ [.slice a5 n c5], by go_num, by omega, hid (by rw [List.length_append, hul.out]; rfl), hid hkey.1, hid hkey.2, (hxw.trans x5).setCell (p := ⟨g, k, none⟩) hgw _⟩
        case measure => simp [intOf]; omega
      · have b0 : ((k : Int) == 0) = false := by rw [beq_eq_false_iff_ne]; omega
        obtain ⟨m, hmk⟩ : ∃ m, k = m + 1 := ⟨k - 1, by omega⟩
        obtain ⟨u1, hu1⟩ : ∃ u1, us.getD m undef = u1 := ⟨_, rfl⟩
        have c1 := hB.out.cell m
        rw [roomS_get (by rw [hul.out]; omega), hu1] at c1
        obtain ⟨hi1, a1, l1, cp1, e1⟩ := hus.out m (by omega)
        rw [hu1] at hi1 e1
        subst e1
        have HI1 := hid hi1
        have HK0 := hid hk0
        have hw0 : IntKind.i64.wrap ((k : Int) - 1) = (m : Int) := by rw [show (k : Int) - 1 = (m : Int) by omega]; rw [IntKind.wrap_i64]; omega
        have hw1 : (0 : Int) ≤ (m : Int) := by omega
        have hw2 : (m : Int) < (many : Int) := by omega
        have hw3 : m < many := by omega
        have hFS : F k = timesL p n n xs (F m) := by rw [hmk]; exact PS.out m
        have HFS := hid hFS; have HMK := hid hmk
        have hAr := hA1.out.ext hxw
        obtain ⟨b1, b2, b3⟩ := hAr.at3
        have fs := hid fun (W : World) (hW : Ext wr W) => (show (W.cell? ⟨w.heap.size, 0, none⟩ = some (.int .i64 (n : Int)) ∧ W.cell? ⟨w.heap.size, 1, none⟩ = some (.int .i64 (n : Int)) ∧ W.cell? ⟨w.heap.size, 2, none⟩ = some (.slice a xs.length cap)) ∧ W.cell? ⟨g, m, none⟩ = some (.slice a1 l1 cp1) from
          ⟨(hAr.ext hW).at3, (hW.cells _ _ (cell_lt c1)).trans c1⟩)
        have fs2 := hid fun (W : World) (u : Value) (hW : Ext wr W) => (show ((W.setCell ⟨g, k, none⟩ u).cell? ⟨w.heap.size, 0, none⟩ = some (.int .i64 (n : Int)) ∧ (W.setCell ⟨g, k, none⟩ u).cell? ⟨w.heap.size, 1, none⟩ = some (.int .i64 (n : Int)) ∧ (W.setCell ⟨g, k, none⟩ u).cell? ⟨w.heap.size, 2, none⟩ = some (.slice a xs.length cap)) ∧ (W.setCell ⟨g, k, none⟩ u).cell? ⟨g, m, none⟩ = some (.slice a1 l1 cp1) from by
          have hgl := hA1.out.lt
          refine ⟨((hAr.ext hW).grown (setCell_grown W ⟨g, k, none⟩ u) (fun e => by injection e with e; exact absurd (show g = w.heap.size from e) (by omega))).at3, ?_⟩
          rw [((hB.out.ext hW).set_ k u).cell m, Array.getElem?_setIfInBounds_ne (by omega), ← (hB.out.ext hW).cell m, (hW.cells _ _ (cell_lt c1)).trans c1])
        clear hk0 hi1 hu1 hAr hFS hmk
        go_wp2_with fail
        go_region_held3 (fun w' => (w'.cell? ⟨w.heap.size, 0, none⟩ = some (.int .i64 (n : Int)) ∧ w'.cell? ⟨w.heap.size, 1, none⟩ = some (.int .i64 (n : Int)) ∧ w'.cell? ⟨w.heap.size, 2, none⟩ = some (.slice a xs.length cap)) ∧ w'.cell? ⟨g, m, none⟩ = some (.slice a1 l1 cp1))
          (first | assumption | exact fs.out _ ((Ext.refl wr).drew) | exact fs.out _ (((Ext.refl wr).drew).trans x5) | exact fs2.out _ _ (((Ext.refl wr).drew).trans x5))
          ((first
            | (go_at_call 26; refine (C2.out _ _ _ ((x0.trans hxw).trans ((Ext.refl wr).drew)) (HI1.out.ext ((Ext.refl wr).drew)) (PR.out m) (PL.out m)).mono ?_; rintro _ w5 ⟨z5, rfl, hi5, x5⟩
               have d0 := (((Ext.refl wr).drew.trans x5).cells _ _ (cell_lt c0)).trans c0
               have e0 := (hB.out.ext ((Ext.refl wr).drew.trans x5)).frozen k
               rw [← HFS.out] at hi5
               have HI5 := hid hi5
               obtain ⟨a5, c5, rfl, -, -, -⟩ := hi5)))
        have x6 : Ext wr w5 := (Ext.refl wr).drew.trans x5
        have hkey := KEY.out w5 (.slice a5 (F k).length c5) x6 HI5.out ⟨_, _, _, rfl⟩
        go_wp2_with fail
        go_roundw
        case rel => exact ⟨k + 1, us ++ [.slice a5 (F k).length c5], by go_num, by omega, hid (by rw [List.length_append, hul.out]; rfl), hid hkey.1, hid hkey.2, (hxw.trans x6).setCell (p := ⟨g, k, none⟩) hgw _⟩
        case measure => simp [intOf]; omega
    · obtain rfl : k = many := by omega
      rw [Nat.sub_self] at hB
      have hBf : Blk wr g 23 us.toArray := by
        have := hB.out
        unfold roomS at this
        rwa [List.replicate_zero, List.append_nil] at this
      go_wp2_with fail
      go_ret2
      exact ⟨g, us, rfl, hul.out, hBf, fun j hj => by rw [PG.out j hj]; exact (hus.out j hj).1, x0.trans hxw⟩
end Go.Proofs.Ythmmakkldkjnlaa
/- A companion: its own polynomial, its determinant; matrices that are alike have one own polynomial; whose own polynomial has no first number has no inverse (in plain Lean; nothing of a program). -/
namespace Go.Proofs.Ythmmakkldkjnlaa
variable {p : Int} {n : Nat} {xs : List Int}

/-! ### a companion's own polynomial -/
/-- ones beside the diagonal, c below -/
def cmpF (n : Nat) (c : Nat → Int) : Nat → RowF := fun r k => if r = n then c k else if k = r + 1 then 1 else 0
theorem cmp_shift {c : Nat → Int} {v : RowF} {r : Nat} (h : r < n) : mapF (n + 1) (cmpF n c) v r = v (r + 1) := by
  unfold mapF
  rw [sm_congr (g := fun k => if k = r + 1 then v k else 0) fun k _ => by
    unfold cmpF
    rw [if_neg (by omega)]
    split <;> simp]
  exact sm_single v (by omega)
theorem cmp_it {c : Nat → Int} {v : RowF} : ∀ {k r : Nat}, r + k < n + 1 → itF (n + 1) (cmpF n c) k v r = v (r + k)
  | 0, _, _ => rfl
  | k + 1, r, h => by
    show mapF (n + 1) (cmpF n c) (itF (n + 1) (cmpF n c) k v) r = _
    rw [cmp_shift (by omega), cmp_it (by omega)]
    congr 1; omega
theorem cmp_last {c : Nat → Int} {v : RowF} : itF (n + 1) (cmpF n c) (n + 1) v 0 = sm (n + 1) fun k => c k * v k := by
  rw [itF_succ, cmp_it (by omega)]
  unfold mapF
  exact sm_congr fun k _ => by
    unfold cmpF
    rw [if_pos (Nat.zero_add n)]
theorem cmp_zero {f c : Nat → Int} (hc : ∀ k, k < n + 1 → c k % p = -f k % p) (h1 : f (n + 1) = 1) (v : RowF) : doF (n + 1) (cmpF n c) (n + 2) f v 0 % p = 0 := by
  have e : doF (n + 1) (cmpF n c) (n + 2) f v 0 = (sm (n + 1) fun k => f k * v k) + sm (n + 1) fun k => c k * v k := by
    unfold doF
    rw [sm, h1, Int.one_mul, cmp_last]
    congr 1
    exact sm_congr fun k hk => by rw [cmp_it (by omega), Nat.zero_add]
  rw [e, ← sm_add]
  exact sm_mz fun k hk => by
    rw [← Int.add_mul]
    refine mz_mul' ?_ _
    rw [Int.add_emod, hc k hk, ← Int.add_emod, Int.add_right_neg, Int.zero_emod]
theorem cmp_kil {f c : Nat → Int} (hc : ∀ k, k < n + 1 → c k % p = -f k % p) (h1 : f (n + 1) = 1) (v : RowF) : ∀ i, i < n + 1 → doF (n + 1) (cmpF n c) (n + 2) f v i % p = 0 := fun i hi => by
  have e := cmp_it (n := n) (c := c) (v := doF (n + 1) (cmpF n c) (n + 2) f v) (k := i) (r := 0) (by omega)
  rw [Nat.zero_add] at e
  rw [← e, ← do_it]
  exact cmp_zero hc h1 _
theorem cmp_less {c : Nat → Int} {g : Ser p} (hg : g.low (n + 1)) (h : ∀ k, k < n + 1 → Kil p (n + 1) (cmpF n c) g (uniF k)) : g = 0 := by
  refine Ser.ext_ fun k => ?_
  rw [Ser.zero_co]
  rcases Nat.lt_or_ge k (n + 1) with q | q
  · have h1 := (h k q).at_ hg 0 (by omega)
    have e : doF (n + 1) (cmpF n c) (n + 1) g.co (uniF k) 0 = g.co k := by
      unfold doF
      rw [sm_congr (g := fun j => if j = k then g.co j else 0) fun j hj => by
        rw [cmp_it (by omega), Nat.zero_add]
        unfold uniF
        split <;> simp]
      exact sm_single g.co q
    rw [e, g.ok] at h1
    exact h1
  · exact hg k q
/-- a companion's own polynomial is the one that it is of -/
theorem cmp_min (hp : 2 ≤ p) {f : List Int} (hf : Pol p f) (hl : f.length = n + 2) (h1 : f.getD (n + 1) 0 = 1) {c : Nat → Int} (hc : ∀ k, k < n + 1 → c k % p = -f.getD k 0 % p) : IsMin p (n + 1) (cmpF n c) f := by
  have e : (pol p f).list (n + 1 + 1) = f := list_ext (by rw [Ser.list_len, hl]) fun k hk => by
    rw [Ser.list_len] at hk
    rw [Ser.list, tab_get _ hk]; exact hf.rng.co k
  have k1 : (pol p f).co (n + 1) = 1 := by rw [hf.rng.co]; exact h1
  have := IsOwn.of (A := cmpF n c) (n := n + 1) (V := fun v => ∃ i, i < n + 1 ∧ v = uniF i) hp (hl ▸ pol_low (p := p) f) k1 (fun v _ => ⟨n + 2, hl ▸ pol_low (p := p) f, fun i hi => ?_⟩) fun g hg hk => cmp_less hg fun k hk' => hk _ ⟨k, hk', rfl⟩
  · rw [e] at this; exact this
  · exact cmp_kil (fun k hk => by rw [hc k hk, hf.rng.co]) k1 v i hi

/-! ### its determinant -/
theorem cmp_det : ∀ (n : Nat) (c : Nat → Int), detF (n + 1) (cmpF n c) = sg n * c 0
  | 0, c => by
    rw [detF_succ]
    show 0 + sg 0 * cmpF 0 c 0 0 * 1 = _
    unfold cmpF
    rw [if_pos rfl]; omega
  | n + 1, c => by
    rw [detF_succ, sm_congr (g := fun k => if k = 1 then - (sg n * c 0) else 0) fun k hk => by
      unfold cmpF
      rw [if_neg (by omega)]
      by_cases e : k = 1
      · subst e
        rw [if_pos rfl, if_pos rfl, detF_congr (n + 1) (B := cmpF n fun j => c (skp 1 j)) fun i j hi hj => by
          show (if i + 1 = n + 1 then c (skp 1 j) else if skp 1 j = i + 1 + 1 then 1 else 0) = if i = n then c (skp 1 j) else if j = i + 1 then 1 else 0
          by_cases q : i = n
          · rw [if_pos (by omega), if_pos q]
          · rw [if_neg (by omega), if_neg q]
            unfold skp
            by_cases q' : j < 1
            · rw [if_pos q', if_neg (by omega), if_neg (by omega)]
            · rw [if_neg q']
              by_cases q2 : j = i + 1
              · rw [if_pos (by omega), if_pos q2]
              · rw [if_neg (by omega), if_neg q2], cmp_det n]
        show sg 1 * 1 * (sg n * c 0) = _
        rw [show sg 1 = -1 from rfl]; omega
      · rw [if_neg (by omega), if_neg e]; simp]
    rw [sm_single (fun _ => - (sg n * c 0)) (by omega), sg_succ, Int.neg_mul]

/-! ### alike -/
theorem it_alike {A B U N : Nat → RowF} (hN : ∀ v, Eqv p n (mapF n N v) (mapF n B (mapF n A (mapF n U v)))) (hU : ∀ v, Eqv p n (mapF n U (mapF n B v)) v) (v : RowF) : ∀ k, Eqv p n (itF n N k (mapF n B v)) (mapF n B (itF n A k v))
  | 0 => Eqv.refl _
  | k + 1 => fun i hi => by
    show mapF n N (itF n N k (mapF n B v)) i % p = mapF n B (mapF n A (itF n A k v)) i % p
    rw [map_mod (it_alike hN hU v k) i, hN _ i hi]
    exact map_mod (fun j _ => map_mod (hU _) j) i
theorem kil_alike {A B U N : Nat → RowF} (hN : ∀ v, Eqv p n (mapF n N v) (mapF n B (mapF n A (mapF n U v)))) (hU : ∀ v, Eqv p n (mapF n U (mapF n B v)) v) (hB : ∀ v, Eqv p n (mapF n B (mapF n U v)) v) {f : Ser p} (h : ∀ v, Kil p n A f v) (w : RowF) : Kil p n N f w := by
  obtain ⟨d, hd, hk⟩ := h (mapF n U w)
  have : Kil p n N f (mapF n B (mapF n U w)) := ⟨d, hd, fun i hi => by
    have e : doF n N d f.co (mapF n B (mapF n U w)) i % p = mapF n B (doF n A d f.co (mapF n U w)) i % p := by
      unfold doF
      rw [map_sum]
      exact sm_mod fun k _ => by rw [← mm_r, it_alike hN hU _ k i hi, mm_r]
    rw [e]
    exact sm_mz fun j hj => mz_mul (hk j hj) _⟩
  exact this.congr fun i hi => (hB w i hi).symm
theorem min_alike (hp : 2 ≤ p) {A B U N : Nat → RowF} (hN : ∀ v, Eqv p n (mapF n N v) (mapF n B (mapF n A (mapF n U v)))) (hU : ∀ v, Eqv p n (mapF n U (mapF n B v)) v) (hB : ∀ v, Eqv p n (mapF n B (mapF n U v)) v) {x y : List Int} (hx : IsMin p n A x) (hy : IsMin p n N y) : x = y := by
  have hA : ∀ v, Eqv p n (mapF n A v) (mapF n U (mapF n N (mapF n B v))) := fun v i hi => by
    have e1 : Eqv p n (mapF n N (mapF n B v)) (mapF n B (mapF n A v)) := fun j hj => by
      rw [hN _ j hj]
      exact map_mod (fun l _ => map_mod (hU v) l) j
    rw [map_mod e1 i, hU _ i hi]
  have hx' : IsMin p n N x := ⟨hx.isp, hx.ne, hx.mon, fun v _ => kil_alike hN hU hB (fun v => hx.all v) v, fun f hf hk => hx.dvd f hf fun v _ => kil_alike hA hB hU (fun w => Kil.all hf (fun i hi => hk _ ⟨i, hi, rfl⟩) w) v⟩
  exact IsOwn.one hp hx' hy
theorem times_Eqv {x : List Int} : Eqv p n (atV (timesL p n n xs x)) (mapF n (atF n xs) (atV x)) := fun i hi => by
  unfold atV
  rw [times_at hi, Int.emod_emod]; rfl
theorem map_tab (A : Nat → RowF) (v : RowF) (i : Nat) : mapF n A (atV (tab n v)) i = mapF n A v i := sm_congr fun k hk => by
  show _ * (tab n v).getD k 0 = _
  rw [tab_get _ hk]
theorem map_mul {xs ys : List Int} (v : RowF) : Eqv p n (mapF n (atF n (mulL p n n n xs ys)) v) (mapF n (atF n xs) (mapF n (atF n ys) v)) := fun i hi => by
  rw [← map_tab, ← times_at hi, ← times_mul, times_at hi, map_mod times_Eqv i]
  exact map_mod (fun j _ => by rw [map_tab]) i
theorem map_one (v : RowF) {i : Nat} (hi : i < n) : mapF n (atF n (oneL n)) v i = v i := by
  unfold mapF
  rw [sm_congr (g := fun k => if k = i then v k else 0) fun k hk => by
    show (oneL n).getD (i * n + k) 0 * v k = _
    rw [oneL, grid_get _ hi hk]
    by_cases e : k = i
    · rw [if_pos e, if_pos e.symm, Int.one_mul]
    · rw [if_neg e, if_neg (fun h => e h.symm), Int.zero_mul]]
  exact sm_single v hi
theorem map_inv {xs ys : List Int} (h : mulL p n n n xs ys = oneL n) (v : RowF) : Eqv p n (mapF n (atF n xs) (mapF n (atF n ys) v)) v := fun i hi => by
  rw [← map_mul v i hi, h, map_one v hi]
/-- b times a times b's inverse has a's own polynomial -/
theorem min_similar {a b u x y : List Int} (ok : MatOk p n n b) (hf : Fld p) (hr : (takeL p n n b).U.length = n) (hu : IsInv p n b u) (hx : MinL p n a x) (hy : MinL p n (mulL p n n n (mulL p n n n b a) u) y) : x = y :=
  min_alike (rightB_true ok.hp).1 (B := atF n b) (U := atF n u) (fun v i hi => by
    rw [map_mul v i hi, map_mul _ i hi]) (map_inv (hu.left ok hf hr)) (map_inv hu.one) hx hy

/-- only the places of the matrix count -/
theorem it_congr {A N : Nat → RowF} (e : ∀ i k, i < n → k < n → A i k = N i k) (v : RowF) : ∀ k i, i < n → itF n A k v i = itF n N k v i
  | 0, _, _ => rfl
  | k + 1, i, hi => by
    show (sm n fun j => A i j * itF n A k v j) = sm n fun j => N i j * itF n N k v j
    exact sm_congr fun j hj => by rw [e i j hi hj, it_congr e v k j hj]
theorem kil_congr {A N : Nat → RowF} (e : ∀ i k, i < n → k < n → A i k = N i k) {f : Ser p} {v : RowF} (h : Kil p n A f v) : Kil p n N f v := by
  obtain ⟨d, hd, hk⟩ := h
  refine ⟨d, hd, fun i hi => ?_⟩
  rw [← hk i hi]
  unfold doF
  exact congrArg (· % p) (sm_congr fun k _ => by rw [it_congr e v k i hi])
theorem min_congr {A N : Nat → RowF} (e : ∀ i k, i < n → k < n → A i k = N i k) {x : List Int} (h : IsMin p n A x) : IsMin p n N x :=
  ⟨h.isp, h.ne, h.mon, fun v hv => kil_congr e (h.kil v hv), fun f hf hk => h.dvd f hf fun v hv => kil_congr (fun i k hi hk => (e i k hi hk).symm) (hk v hv)⟩

/-! ### the first number -/
theorem min_det (ok : MatOk p n n xs) (hf : Fld p) {x : List Int} (hx : MinL p n xs x) : x.getD 0 0 = 0 ↔ detF n (atF n xs) % p = 0 := by
  have hp := (rightB_true ok.hp).1
  have hp' := hf.has hp
  have hl := List.length_pos_iff.2 hx.ne
  obtain ⟨d, hd⟩ : ∃ d, x.length = d + 1 := ⟨x.length - 1, by omega⟩
  have key : ∀ v, Eqv p n (fun i => x.getD 0 0 * v i + mapF n (atF n xs) (doF n (atF n xs) d (fun j => x.getD (0 + 1 + j) 0) v) i) (fun _ => 0) := fun v i hi => by
    have h1 := (hx.all v).at_ (hd ▸ pol_low (p := p) x) i hi
    have h2 := doF_pol (p := p) (n := n) x (atF n xs) v i hi
    rw [hd] at h2
    rw [h1] at h2
    have h3 := congrFun (doF_horner (n := n) (atF n xs) d (fun j => x.getD j 0) v 0) i
    simp only [Nat.zero_add] at h3
    show (_ + _) % p = 0 % p
    simp only [Nat.zero_add]
    rw [← h3, ← h2, Int.zero_emod]
  constructor
  · intro h0
    refine Classical.byContradiction fun hdet => ?_
    have hr : (takeL p n n xs).U.length = n := Classical.byContradiction fun hn => hdet ((det_rank (n := n) hp hf ok.hx).2 hn)
    obtain ⟨u, hu⟩ := IsInv.of ok hf hr
    have hleft := hu.left ok hf hr
    have hz : ∀ v, ∀ i, i < n → doF n (atF n xs) d (fun j => x.getD (0 + 1 + j) 0) v i % p = 0 := fun v i hi => by
      rw [← map_inv hleft _ i hi]
      exact sm_mz fun j hj => mz_mul (by
        have := key v j hj
        rw [h0] at this
        simpa using this) _
    let g : Ser p := .of p fun j => if j < d then x.getD (0 + 1 + j) 0 else 0
    have hg : g.low d := fun k hk => by
      show (if k < d then _ else (0 : Int)) % p = 0
      rw [if_neg (by omega), Int.zero_emod]
    have hgz : g = 0 := hx.less hp (f := g) (by rw [hd]; exact hg) fun v _ => ⟨d, hg, fun i hi => by
      rw [← hz v i hi]
      exact do_mod (Eqv.refl v) (fun k hk => by
        show (if k < d then _ else (0 : Int)) % p % p = _
        rw [if_pos hk, Int.emod_emod]) i hi⟩
    have h1 := hx.mon
    unfold lead at h1
    rw [hd, Nat.add_sub_cancel] at h1
    rcases Nat.eq_zero_or_pos d with q | q
    · rw [q] at h1; omega
    · have h2 : g.co (d - 1) = 0 := by rw [hgz]; rfl
      have h3 : g.co (d - 1) = 1 := by
        show (if d - 1 < d then x.getD (0 + 1 + (d - 1)) 0 else 0) % p = 1
        rw [if_pos (by omega), show 0 + 1 + (d - 1) = d by omega, h1]; exact mod_small (by omega) (by omega)
      omega
  · intro hdet
    refine Classical.byContradiction fun h0 => ?_
    have hr0 := hx.isp.rng.getD hp 0
    obtain ⟨b, hb⟩ := hp'.2 (x.getD 0 0) (by rw [mod_small hr0.1 hr0.2]; exact h0)
    let w : Nat → RowF := fun k => doF n (atF n xs) d (fun j => x.getD (0 + 1 + j) 0) (uniF k)
    let u : List Int := grid n n fun i k => -b * w k i % p
    have hone : mulL p n n n xs u = oneL n := by
      unfold mulL oneL
      refine grid_congr fun i k hi hk => ?_
      have e : dv p n (fun j => xs.getD (i * n + j) 0) (fun j => u.getD (j * n + k) 0) = (-b * mapF n (atF n xs) (w k) i) % p := by
        unfold dv mapF
        rw [← sm_mul]
        refine sm_mod fun j hj => ?_
        show xs.getD (i * n + j) 0 * u.getD (j * n + k) 0 % p = -b * (xs.getD (i * n + j) 0 * w k j) % p
        rw [grid_get _ hj hk, mm_r]
        exact congrArg (· % p) (by grind)
      have hk' := key (uniF k) i hi
      have hk2 : (x.getD 0 0 * uniF k i + mapF n (atF n xs) (w k) i) % p = 0 := by rw [← Int.zero_emod p]; exact hk'
      have e2 : (-b * mapF n (atF n xs) (w k) i) % p = uniF k i % p := by
        refine mz_sub.2 ?_
        rw [show -b * mapF n (atF n xs) (w k) i - uniF k i = -b * (x.getD 0 0 * uniF k i + mapF n (atF n xs) (w k) i) + (x.getD 0 0 * b - 1) * uniF k i by grind]
        exact mz_add (mz_mul hk2 _) (mz_mul' (mz_sub.1 (by rw [hb, hp'.one])) _)
      rw [e, e2]
      unfold uniF
      split
      · exact hp'.one
      · exact Int.zero_emod _
    have hd := det_product (n := n) (ys := u) hp hf ok.hx
    rw [hone, det_one, hp'.one, hdet, Int.zero_mul, Int.zero_emod] at hd
    omega
end Go.Proofs.Ythmmakkldkjnlaa
/- The document's own polynomial of the least degree: rows that are free till one is made of those ahead, and what tells how (in plain Lean; nothing of a program). -/
namespace Go.Proofs.Ythmmakkldkjnlaa
variable {p : Int} {n m r : Nat} {R : Nat → List Int} {st st' : ElE}

/-- where the rows are free, all count -/
theorem ElOk.all (hp : HasInv p) (h : ElOk p n R m st) (hi : Ind p n m fun k => lf (R k)) : st.U.length = m := by
  have h1 : m ≤ st.U.length := hi.le hp fun k hk => (h.bas hp).gen k hk
  have h2 := h.le
  omega
/-- .. and only there -/
theorem ElOk.not_all (hp : HasInv p) (h : ElOk p n R m st) (hi : ¬ Ind p n m fun k => lf (R k)) : st.U.length ≠ m := fun e => hi fun x hx k hk => by
  have hf := h.free hp
  rw [e] at hf
  have hid := inc_id (by rw [h.lr, e]) h.inc h.low
  exact hf x (fun j hj => by
    rw [← hx j hj]
    exact congrArg (· % p) (sm_congr fun k hk => by
      show x k * lf (R (st.rows.getD k 0)) j = x k * lf (R k) j
      rw [hid k hk])) k hk
/-- the first row that doesn't count: what is known of the state -/
structure LastE (p : Int) (n r : Nat) (R : Nat → List Int) (st : ElE) : Prop where
  lu : st.U.length = r
  lc : st.C.length = r + 1
  len : ∀ k, k < r → (st.C.getD k []).length = k + 1 ∧ (st.C.getD k []).getD k 0 = 1
  last : (st.C.getD r []).length = r
  rng : ∀ k, k < r + 1 → Rng p (st.C.getD k [])
  made : ∀ k, k < r + 1 → ∀ j, j < n → (R k).getD j 0 % p = (sm (st.C.getD k []).length fun t => (st.C.getD k []).getD t 0 * (st.U.getD t []).getD j 0) % p
theorem LastE.of (hp : HasInv p) (hR : ∀ i, i < r + 1 → (R i).length = n ∧ Rng p (R i)) (h : takeE p n R (r + 1) = some st) (hi : Ind p n r fun k => lf (R k)) (hn : ¬ Ind p n (r + 1) fun k => lf (R k)) : LastE p n r R st := by
  have ho := takeE_ok hp.1 (r + 1) hR h
  have hne := ho.not_all hp hn
  have h0 := h
  rw [takeE] at h0
  cases e : takeE p n R r with
  | none => rw [e] at h0; cases h0
  | some st' =>
    rw [e] at h0
    have h0 : stepE p n st' r (R r) = some st := h0
    have ho' := takeE_ok hp.1 r (fun i hi => hR i (by omega)) e
    have hu' := ho'.all hp hi
    have hid := inc_id (by rw [ho'.lr, hu']) ho'.inc ho'.low
    have hel := elimE_ok (n := n) (r := st'.U.length) (U := st'.U) (cols := st'.cols) (row := R r) hp.1 (hR r (by omega)).1 (hR r (by omega)).2 rfl (fun k hk => ⟨(ho'.row k hk).1, (ho'.row k hk).2.1, (ho'.row k hk).2.2.1, (ho'.row k hk).2.2.2.1⟩) (fun k j hj hk => ho'.zero k j hj hk) _ (Nat.le_refl _)
    unfold stepE at h0
    simp only at h0
    split at h0
    · split at h0
      · exfalso
        have h1 := Option.some.inj h0
        apply hne
        rw [← h1]
        show (st'.U ++ [_]).length = _
        rw [List.length_append, hu']; rfl
      · cases h0
    · have h1 := Option.some.inj h0
      have eC : st.C = st'.C ++ [(elimE p n st'.U st'.cols (R r) st'.U.length).1] := by rw [← h1]
      have eU : st.U = st'.U := by rw [← h1]
      have hlc := ho'.lc
      refine ⟨by rw [eU, hu'], ho.lc, fun k hk => ?_, ?_, fun k hk => (ho.cl k hk).2, ho.made⟩
      · have := ho'.one k (by rw [ho'.lr, hu']; exact hk)
        rw [hid k hk] at this
        rw [eC, getD_app _ _ _ (by rw [hlc]; exact hk)]
        exact this
      · rw [eC, getD_end _ _ _ hlc.symm, hel.1, hu']

/-- the way back -/
structure LBack (p : Int) (n r : Nat) (R : Nat → List Int) (st : ElE) (k : Nat) (left out : List Int) : Prop where
  ll : left.length = r
  lo : out.length = r + 1
  rl : Rng p left
  ro : Rng p out
  top : out.getD r 0 = 1
  eq : ∀ j, j < n → (R r).getD j 0 % p = ((sm k fun t => left.getD t 0 * (st.U.getD t []).getD j 0) + sm r fun t => if t < k then 0 else -out.getD t 0 * (R t).getD j 0) % p
theorem LBack.start (hp : 2 ≤ p) (h : LastE p n r R st) : LBack p n r R st r (st.C.getD r []) ((List.replicate (r + 1) (0 : Int)).set r 1) := by
  refine ⟨h.last, by simp, h.rng r (by omega), Rng.of_get fun k hk => ?_, ?_, fun j hj => ?_⟩
  · rw [set_get _ _ _ _ (by simp), replicate_get]
    split <;> omega
  · rw [set_get _ _ _ _ (by simp), if_pos rfl]
  · rw [h.made r (by omega) j hj, h.last, sm_zero (n := r) (f := fun t => if t < r then 0 else -((List.replicate (r + 1) (0 : Int)).set r 1).getD t 0 * (R t).getD j 0) fun t ht => by rw [if_pos ht], Int.add_zero]
theorem LBack.step (hp : 2 ≤ p) (h : LastE p n r R st) {k : Nat} {left out left' : List Int} (hk : k < r) (b : LBack p n r R st (k + 1) left out) (hl : left'.length = r) (hr : Rng p left')
    (hn : ∀ j, j < k → left'.getD j 0 = (left.getD j 0 - left.getD k 0 * (st.C.getD k []).getD j 0 % p) % p) : LBack p n r R st k left' (out.set k ((0 - left.getD k 0) % p)) := by
  have hlo := b.lo
  refine ⟨hl, by rw [List.length_set]; exact hlo, hr, Rng.of_get fun t ht => by
    rw [List.length_set] at ht
    rw [set_get _ _ _ _ (by omega)]
    split
    · exact mod_range _ hp
    · exact b.ro.getD hp t, ?_, fun j hj => ?_⟩
  · rw [set_get _ _ _ _ (by omega), if_neg (by omega)]; exact b.top
  · rw [b.eq j hj]
    have hm := h.made k (by omega) j hj
    rw [(h.len k hk).1] at hm
    have hm : (R k).getD j 0 % p = ((sm k fun t => (st.C.getD k []).getD t 0 * (st.U.getD t []).getD j 0) + (st.U.getD k []).getD j 0) % p := by
      rw [hm]
      show (_ + (st.C.getD k []).getD k 0 * _) % p = _
      rw [(h.len k hk).2, Int.one_mul]
    -- the sum of what is left
    obtain ⟨L, hL⟩ : ∃ L, left.getD k 0 = L := ⟨_, rfl⟩
    rw [hL] at hn ⊢
    have e1 : (sm k fun t => left'.getD t 0 * (st.U.getD t []).getD j 0) % p = ((sm k fun t => left.getD t 0 * (st.U.getD t []).getD j 0) + -L * sm k fun t => (st.C.getD k []).getD t 0 * (st.U.getD t []).getD j 0) % p := by
      rw [← sm_mul, ← sm_add]
      exact sm_mod fun t ht => by
        rw [hn t ht, ms_r, mm_l]
        exact congrArg (· % p) (by grind)
    -- the sum of what is told
    have e2 : (sm r fun t => if t < k then 0 else -(out.set k ((0 - L) % p)).getD t 0 * (R t).getD j 0) % p = ((sm r fun t => if t < k + 1 then 0 else -out.getD t 0 * (R t).getD j 0) + L * (R k).getD j 0) % p := by
      rw [← sm_single (fun t => L * (R t).getD j 0) hk, ← sm_add]
      refine sm_mod fun t ht => ?_
      rw [set_get _ _ _ _ (by omega)]
      rcases Nat.lt_trichotomy t k with c | c | c
      · rw [if_pos c, if_pos (by omega), if_neg (by omega), Int.add_zero]
      · subst c
        rw [if_neg (by omega), if_pos rfl, if_pos (by omega), if_pos rfl, Int.zero_add, Int.neg_mul, ← Int.zero_sub ((0 - L) % p * _), ← ms_r, mm_l, ms_r]
        exact congrArg (· % p) (by grind)
      · rw [if_neg (by omega), if_neg (by omega), if_neg (by omega), if_neg (by omega), Int.add_zero]
    obtain ⟨S1, h1⟩ : ∃ S, (sm k fun t => left.getD t 0 * (st.U.getD t []).getD j 0) = S := ⟨_, rfl⟩
    obtain ⟨S2, h2⟩ : ∃ S, (sm k fun t => (st.C.getD k []).getD t 0 * (st.U.getD t []).getD j 0) = S := ⟨_, rfl⟩
    obtain ⟨O, h3⟩ : ∃ S, (sm r fun t => if t < k + 1 then 0 else -out.getD t 0 * (R t).getD j 0) = S := ⟨_, rfl⟩
    rw [h1, h2] at e1; rw [h3] at e2; rw [h2] at hm
    rw [Int.add_emod (sm k fun t => left'.getD t 0 * _), e1, e2, ← Int.add_emod, h3]
    show (((sm k fun t => left.getD t 0 * (st.U.getD t []).getD j 0) + left.getD k 0 * (st.U.getD k []).getD j 0) + O) % p = _
    rw [h1, hL]
    refine (mz_sub.2 ?_)
    rw [show S1 + L * (st.U.getD k []).getD j 0 + O - (S1 + -L * S2 + (O + L * (R k).getD j 0)) = -L * ((R k).getD j 0 - (S2 + (st.U.getD k []).getD j 0)) by grind]
    exact mz_mul (mz_sub.1 hm) _
theorem LBack.done {left out : List Int} (b : LBack p n r R st 0 left out) : ∀ j, j < n → (sm (r + 1) fun t => out.getD t 0 * (R t).getD j 0) % p = 0 := fun j hj => by
  have h := b.eq j hj
  have e : (sm r fun t => if t < 0 then 0 else -out.getD t 0 * (R t).getD j 0) = -sm r fun t => out.getD t 0 * (R t).getD j 0 := by
    rw [← sm_neg]
    exact sm_congr fun t _ => by rw [if_neg (by omega), Int.neg_mul]
  rw [e] at h
  obtain ⟨S, hS⟩ : ∃ S, (sm r fun t => out.getD t 0 * (R t).getD j 0) = S := ⟨_, rfl⟩
  rw [hS] at h
  have h : (R r).getD j 0 % p = (0 + -S) % p := h
  rw [mz_sub] at h
  show ((sm r fun t => out.getD t 0 * (R t).getD j 0) + out.getD r 0 * (R r).getD j 0) % p = 0
  rw [b.top, hS]
  refine Eq.trans (congrArg (· % p) ?_) h
  omega
theorem LBack.pol {k : Nat} {left out : List Int} (b : LBack p n r R st k left out) : Pol p out := ⟨b.ro, fun _ => by
  rw [b.lo, Nat.add_sub_cancel, b.top]; omega⟩

/-! ### whose rows they are -/
/-- rows of which some make 0 just if the polynomial does of all these vectors -/
def Tells (p : Int) (n w : Nat) (A : Nat → RowF) (V : RowF → Prop) (L : Nat → RowF) : Prop := ∀ (d : Nat) (f : Nat → Int), (∀ j, j < w → (sm d fun t => f t * L t j) % p = 0) ↔ ∀ v, V v → ∀ i, i < n → doF n A d f v i % p = 0
variable {w : Nat} {A : Nat → RowF} {V : RowF → Prop} {L : Nat → RowF} {g : List Int}
theorem Tells.kil (hK : Tells p n w A V L) {d : Nat} {f : Nat → Int} {F : Ser p} (hl : F.low d) (hF : ∀ t, t < d → F.co t = f t % p) (h : ∀ j, j < w → (sm d fun t => f t * L t j) % p = 0) (v : RowF) (hv : V v) : Kil p n A F v := by
  refine ⟨d, hl, fun i hi => Eq.trans ?_ ((hK d f).1 h v hv i hi)⟩
  exact do_mod (Eqv.refl v) (fun t ht => by rw [hF t ht, Int.emod_emod]) i hi
/-- they are free till the own polynomial's degree -/
theorem Tells.ind (hp : 2 ≤ p) (hK : Tells p n w A V L) (h : IsOwn p n A V g) {r : Nat} (hr : r < g.length) : Ind p w r L := by
  intro x hx k hk
  have hlow : (Ser.of p fun t => if t < r then x t else 0).low r := fun t ht => by
    show (if t < r then x t else 0) % p = 0
    rw [if_neg (by omega), Int.zero_emod]
  have hz := h.less hp (hlow.mono (by omega)) (hK.kil hlow (fun t ht => by
    show (if t < r then x t else 0) % p = x t % p
    rw [if_pos ht]) hx)
  have := congrArg (fun f : Ser p => f.co k) hz
  have : (if k < r then x k else 0) % p = 0 := this
  rwa [if_pos hk] at this
/-- .. and no longer -/
theorem Tells.dep (hp : 2 ≤ p) (hK : Tells p n w A V L) (h : IsOwn p n A V g) : ¬ Ind p w g.length L := fun hi => by
  have h0 := List.length_pos_iff.2 h.ne
  have hx := (hK g.length fun t => g.getD t 0).2 fun v hv i hi => by
    refine Eq.trans ?_ ((h.kil v hv).at_ (pol_low g) i hi)
    exact (do_mod (Eqv.refl v) (fun t _ => by rw [h.isp.rng.co]) i hi)
  have := hi _ hx (g.length - 1) (by omega)
  have hm : g.getD (g.length - 1) 0 = 1 := h.mon
  rw [hm, mod_small (by omega) (by omega)] at this
  omega
/-- who makes 0 of the rows, and is 1 at the last, is it -/
theorem Tells.out (hp : 2 ≤ p) (hK : Tells p n w A V L) (h : IsOwn p n A V g) {out : List Int} (ho : Pol p out) (hl : out.length = g.length) (h1 : out.getD (g.length - 1) 0 = 1) (hd : ∀ j, j < w → (sm g.length fun t => out.getD t 0 * L t j) % p = 0) : out = g := by
  have hlo := pol_low (p := p) out
  rw [hl] at hlo
  exact ho.inj h.isp (h.eq hp hlo (by rw [ho.rng.co]; exact h1) (hK.kil hlo (fun t ht => by
    have := ho.rng.getD hp t
    rw [ho.rng.co, mod_small this.1 this.2]) hd))
/-- a vector's powers -/
theorem tells_own {xs v : List Int} : Tells p n n (atF n xs) (fun u => u = atV v) fun k => lf (powL p n xs k v) := fun d f => by
  have e : ∀ i, i < n → (sm d fun t => f t * lf (powL p n xs t v) i) % p = doF n (atF n xs) d f (atV v) i % p := fun i hi => by
    unfold doF
    exact sm_mod fun t _ => by
      rw [← mm_r]
      show f t * (atV (powL p n xs t v) i % p) % p = _
      rw [powL_mod t i hi, mm_r]
  exact ⟨fun h u hu i hi => by rw [hu, ← e i hi]; exact h i hi, fun h i hi => by rw [e i hi]; exact h _ rfl i hi⟩
/-- a matrix's powers, as lists -/
def pwL (p : Int) (n : Nat) (xs : List Int) : Nat → List Int
  | 0 => oneL n
  | k + 1 => mulL p n n n (pwL p n xs k) xs
theorem pwL_len (xs : List Int) : ∀ k, (pwL p n xs k).length = n * n
  | 0 => oneL_len n
  | _ + 1 => mulL_len _ _ _ _ _
theorem pwL_rng (hp : 2 ≤ p) (xs : List Int) : ∀ k, Rng p (pwL p n xs k)
  | 0 => oneL_rng hp n
  | _ + 1 => mulL_rng hp _ _ _ _ _
theorem pwL_map {xs : List Int} : ∀ (k : Nat) (v : RowF), Eqv p n (mapF n (atF n (pwL p n xs k)) v) (itF n (atF n xs) k v)
  | 0, v => fun i hi => by
    show mapF n (atF n (oneL n)) v i % p = _
    rw [map_one v hi]; rfl
  | k + 1, v => fun i hi => by
    show mapF n (atF n (mulL p n n n (pwL p n xs k) xs)) v i % p = _
    rw [map_mul v i hi, pwL_map k _ i hi, itF_succ]
theorem map_uni {A : Nat → RowF} {i j : Nat} (hj : j < n) : mapF n A (uniF j) i = A i j := by
  unfold mapF uniF
  rw [sm_congr (g := fun k => if k = j then A i k else 0) fun k _ => by split <;> simp]
  exact sm_single (A i) hj
theorem pwL_get {xs : List Int} {k i j : Nat} (hi : i < n) (hj : j < n) : (pwL p n xs k).getD (i * n + j) 0 % p = itF n (atF n xs) k (uniF j) i % p := by
  rw [← pwL_map k _ i hi, map_uni hj]; rfl
theorem pwL_times (hp : 2 ≤ p) {xs v : List Int} (hv : Rng p v) (hl : v.length = n) (k : Nat) : timesL p n n (pwL p n xs k) v = powL p n xs k v :=
  list_ext (by rw [timesL_len, powL_len hl]) fun i hi => by
    rw [timesL_len] at hi
    rw [times_at hi, powL_get hp hv hi]
    exact pwL_map k _ i hi
theorem tells_min {xs : List Int} : Tells p n (n * n) (atF n xs) (fun v => ∃ i, i < n ∧ v = uniF i) fun k => lf (pwL p n xs k) := fun d f => by
  have e : ∀ i j, i < n → j < n → (sm d fun t => f t * lf (pwL p n xs t) (i * n + j)) % p = doF n (atF n xs) d f (uniF j) i % p := fun i j hi hj => by
    unfold doF
    exact sm_mod fun t _ => by
      rw [← mm_r]
      show f t * ((pwL p n xs t).getD (i * n + j) 0 % p) % p = _
      rw [pwL_get hi hj, mm_r]
  constructor
  · rintro h v ⟨j, hj, rfl⟩ i hi
    rw [← e i j hi hj]
    exact h _ (at_lt hi hj)
  · intro h t ht
    have hi := lt_div ht
    have hj := lt_mod ht
    have et : t / n * n + t % n = t := by rw [Nat.mul_comm]; exact Nat.div_add_mod t n
    rw [← et, e _ _ hi hj]
    exact h _ ⟨_, hj, rfl⟩ _ hi
end Go.Proofs.Ythmmakkldkjnlaa
/- The document's own answers of layer 9: One, Power. -/
namespace Go.Proofs.Ythmmakkldkjnlaa
open Go.RowKit Go.Maps

set_option maxRecDepth 100000 in
set_option maxHeartbeats 2000000 in
theorem r9OneA (n : Nat) (w : World) (hn : 1 ≤ n ∧ n ≤ 64) : Calls Try.prog 73 #[.int .i64 n] w (RetMA n n (oneL n) w) := by
  obtain ⟨Q, hQ⟩ : ∃ Q, n * n = Q := ⟨_, rfl⟩
  have hQb : Q ≤ 4096 := by rw [← hQ]; exact Nat.mul_le_mul hn.2 hn.2
  have hQi : (n : Int) * (n : Int) = (Q : Int) := by rw [← hQ]; push_cast; rfl
  have HQ := hid hQ
  clear hQ
  have HR := hid (Blk.new w 25 #[.int .i64 0, .int .i64 0, .slice none 0 0])
  have hx0 : Ext w (w.alloc (.cells #[.int .i64 0, .int .i64 0, .slice none 0 0] 25)) := (Ext.refl w).alloc _
  have hR1 := HR.out.lt
  have hmk := make_ints (P := Try.prog) 23 22 .u64 8 (by omega) (by kernel_rfl) (by kernel_rfl) Q Q (Nat.le_refl _) (by omega)
  go_enter Try.func73, Try.ntmps73
  go_wp2_with fail
  obtain ⟨w1, hw1⟩ : ∃ w1, w.alloc (.cells #[.int .i64 0, .int .i64 0, .slice none 0 0] 25) = w1 := ⟨_, rfl⟩
  rw [hw1] at HR hx0 hR1
  rw [hw1]
  have hrow := WRow.made (w := w1) (t := 22) (n := Q) rfl
  have x2 := (Ext.refl w1).alloc (.cells (madeCells #[Value.int .u64 0] Q) 22)
  have HU := hid (Und.start (Q := Q) (r := (n : Int)) (c := (n : Int)) (w0 := w1) (Nat.le_refl _) hrow List.length_replicate x2)
  obtain ⟨w2, hw2⟩ : ∃ w2, w1.alloc (.cells (madeCells #[Value.int .u64 0] Q) 22) = w2 := ⟨_, rfl⟩
  have s1 : w1.heap.size = w.heap.size + 1 := by rw [← hw1, alloc_size]
  have s2 : w2.heap.size = w.heap.size + 1 + 1 := by rw [← hw2, alloc_size, s1]
  rw [hw2, s1, s2] at HU
  rw [hw2]
  rw [s1] at hR1
  obtain ⟨w3, hw3⟩ : ∃ w3, w2.alloc (.cells #[.int .i64 (n : Int), .int .i64 (n : Int), .slice (some ⟨w.heap.size + 1, 0, none⟩) Q Q] 25) = w3 := ⟨_, rfl⟩
  rw [hw3] at HU
  rw [hw3]
  obtain ⟨gR, hgR⟩ : ∃ gR, w.heap.size = gR := ⟨_, rfl⟩
  have hgw : w.heap.size ≤ gR := by omega
  rw [hgR] at HR hR1 HU s1
  rw [hgR]
  obtain ⟨g, hg⟩ : ∃ g, gR + 1 = g := ⟨_, rfl⟩
  rw [hg] at HU hR1 s1
  rw [hg]
  obtain ⟨h, hh⟩ : ∃ h, g + 1 = h := ⟨_, rfl⟩
  rw [hh] at HU
  rw [hh]
  have hRw : gR < w1.heap.size := by omega
  have hgA : w.heap.size ≤ g := by omega
  clear hh hw3 hw1 hrow x2 hg hgR hw2 hmk s1 s2 hR1
  have HE := hid hx0
  go_loopw [4] (fun iv wr => ∃ (i : Nat) (l : List Int), iv = .int .i64 i ∧ i ≤ n ∧ Hid (Und w1 wr h g Q n n l) ∧ Hid (∀ a b, b < n → l.getD (a * n + b) 0 = if a = b ∧ a < i then 1 else 0)) (fun iv _ => n - (intOf iv).toNat)
  case atStart => exact ⟨0, _, rfl, Nat.zero_le _, HU, hid fun a b _ => by rw [replicate_get, if_neg (by omega)]⟩
  case round =>
    clear HU
    obtain ⟨i, l, rfl, hi, HU, hl⟩ := hrel
    obtain ⟨o0, o1, o2⟩ := HU.out.box.at3
    by_cases hlt : i < n
    · have hoQ : i * n + n ≤ Q := by rw [← HQ.out, ← Nat.succ_mul]; exact Nat.mul_le_mul_right _ hlt
      obtain ⟨o, ho⟩ : ∃ o, i * n = o := ⟨_, rfl⟩
      have hoi : (i : Int) * (n : Int) = (o : Int) := by rw [← ho]; push_cast; rfl
      rw [ho] at hoQ
      obtain ⟨t, ht⟩ : ∃ t, o + i = t := ⟨_, rfl⟩
      have hti : (o : Int) + (i : Int) = (t : Int) := by omega
      have htQ : t < Q := by omega
      have htQ' : (t : Int) < (Q : Int) := by omega
      have Ht := hid (show i * n + i = t by omega)
      clear ho
      obtain ⟨gt, ft⟩ := HU.out.at_ htQ
      go_wp2_with fail
      go_roundw
      case rel =>
        refine ⟨i + 1, l.set t 1, by go_num, by omega, hid (HU.out.put htQ 1), hid fun a b hb => ?_⟩
        rw [← Ht.out, put_at 1 hlt hb (by rw [Ht.out, HU.out.len]; exact htQ), hl.out a b hb]
        by_cases e : a = i ∧ b = i
        · rw [if_pos e, if_pos (by omega)]
        · rw [if_neg e]
          by_cases e2 : a = b ∧ a < i
          · rw [if_pos e2, if_pos (by omega)]
          · rw [if_neg e2, if_neg (by omega)]
      case measure => simp [intOf]; omega
    · obtain rfl : n = i := by omega
      have hRr := HR.out.ext HU.out.ext
      obtain ⟨r0, r1, r2⟩ := hRr.at3
      have f0 := hRr.frozen 0
      have f1 := hRr.frozen 1
      have f2 := hRr.frozen 2
      have FF := hid (HU.out.fin hRr hRw (HE.out.trans HU.out.ext) hgw (by omega))
      clear hRr
      go_wp2_with fail
      refine bodyPost_ret (results_cell_row rfl _ _ gR 25 _ (0, 0) _ rfl FF.out.1 Try.underlying25 rfl (by kernel_rfl)) rfl ?_
      have e : l = oneL n := grid_of (by rw [HU.out.len, HQ.out]) fun a b ha hb => by
        rw [hl.out a b hb]
        by_cases e : a = b
        · rw [if_pos e, if_pos ⟨e, ha⟩]
        · rw [if_neg e, if_neg (fun h => e h.1)]
      have hlQ : (oneL n).length = Q := by rw [oneL_len, HQ.out]
      exact ⟨some ⟨g, 0, none⟩, Q, by rw [hlQ]; rfl, by rw [hlQ]; exact e ▸ FF.out.2.1, fun _ => ⟨g, rfl, hgA⟩, FF.out.2.2⟩
theorem r9One (n : Nat) (w : World) (hn : 1 ≤ n ∧ n ≤ 64) : Calls Try.prog 73 #[.int .i64 n] w (RetM n n (oneL n) w) := (r9OneA n w hn).mono fun _ _ h => h.plain
end Go.Proofs.Ythmmakkldkjnlaa
