/- What the texts KryL, KryK, Kr1, Kr2, KryA show, in one text. -/
import Derived.Test.YtijpeepdedfhoaaGreatBun13
import Derived.Test.YtijpeepdedfhoaaGreatBun18
import Derived.Test.YtijpeepdedfhoaaGreatBun05
import Derived.Test.YtijpeepdedfhoaaGreatBun12
import Derived.Test.YtijpeepdedfhoaaGreatBun21
import Derived.Test.YtijpeepdedfhoaaGreatBun07
import Derived.Deep.RegionHeld3
import Derived.Test.YtijpeepdedfhoaaGreatBun23
/- A right matrix's powers and polynomials, done to lists of numbers (in plain Lean; nothing of a program). -/
namespace Go.Proofs.YtijpeepdedfhoaaGreat
variable {p : Int} {n : Nat} {xs : List Int}

/-- a matrix done to a list so many times -/
def powL (p : Int) (n : Nat) (xs : List Int) : Nat → List Int → List Int
  | 0, v => v
  | k + 1, v => timesL p n n xs (powL p n xs k v)
/-- a polynomial of the matrix, done to a list -/
def pdoL (p : Int) (n : Nat) (xs f v : List Int) : List Int := tab n fun i => doF n (atF n xs) f.length (fun k => f.getD k 0) (atV v) i % p
theorem powL_len {v : List Int} (hv : v.length = n) : ∀ k, (powL p n xs k v).length = n
  | 0 => hv
  | _ + 1 => timesL_len _ _ _ _
theorem powL_rng (hp : 2 ≤ p) {v : List Int} (hv : Rng p v) : ∀ k, Rng p (powL p n xs k v)
  | 0 => hv
  | _ + 1 => timesL_rng hp _ _ _ _
theorem times_at {x : List Int} {i : Nat} (hi : i < n) : (timesL p n n xs x).getD i 0 = mapF n (atF n xs) (atV x) i % p := by
  unfold timesL
  rw [tab_get _ hi]; rfl
theorem powL_mod {v : List Int} : ∀ k, Eqv p n (atV (powL p n xs k v)) (itF n (atF n xs) k (atV v))
  | 0 => Eqv.refl _
  | k + 1 => fun i hi => by
    show (timesL p n n xs (powL p n xs k v)).getD i 0 % p = mapF n (atF n xs) (itF n (atF n xs) k (atV v)) i % p
    rw [times_at hi, Int.emod_emod]
    exact map_mod (powL_mod k) i
theorem powL_get (hp : 2 ≤ p) {v : List Int} (hv : Rng p v) {k i : Nat} (hi : i < n) : (powL p n xs k v).getD i 0 = itF n (atF n xs) k (atV v) i % p := by
  have h := powL_mod (p := p) (xs := xs) (v := v) k i hi
  rw [← h]
  have hr := (powL_rng (n := n) (xs := xs) hp hv k).getD hp i
  exact (mod_small hr.1 hr.2).symm
theorem powL_add (v : List Int) (a b : Nat) : powL p n xs (a + b) v = powL p n xs a (powL p n xs b v) := by
  induction a with
  | zero => rw [Nat.zero_add]; rfl
  | succ a ih => rw [Nat.add_right_comm]; show timesL p n n xs _ = timesL p n n xs _; rw [ih]
theorem pdoL_len (f v : List Int) : (pdoL p n xs f v).length = n := tab_len _ _
theorem pdoL_rng (hp : 2 ≤ p) (f v : List Int) : Rng p (pdoL p n xs f v) := tab_rng fun _ _ => mod_range _ hp
theorem pdoL_get {f v : List Int} {i : Nat} (hi : i < n) : (pdoL p n xs f v).getD i 0 = doF n (atF n xs) f.length (fun k => f.getD k 0) (atV v) i % p := tab_get _ hi
theorem doF_pol (f : List Int) (A : Nat → RowF) (v : RowF) : Eqv p n (doF n A f.length (pol p f).co v) (doF n A f.length (fun k => f.getD k 0) v) :=
  do_mod (Eqv.refl v) fun k _ => by rw [pol_co, Int.emod_emod]
theorem pdoL_ser {f v : List Int} {d : Nat} (hd : (pol p f).low d) : pdoL p n xs f v = tab n fun i => doF n (atF n xs) d (pol p f).co (atV v) i % p := by
  unfold pdoL
  refine tab_congr fun i hi => ?_
  rw [← doF_pol f (atF n xs) (atV v) i hi, do_same (pol_low f) hd]
theorem pdoL_kil {f v : List Int} : pdoL p n xs f v = List.replicate n 0 ↔ Kil p n (atF n xs) (pol p f) (atV v) := by
  rw [pdoL_ser (pol_low f)]
  constructor
  · intro h
    refine ⟨f.length, pol_low f, fun i hi => ?_⟩
    have := congrArg (fun l => l.getD i 0) h
    simp only [tab_get _ hi, replicate_get] at this
    exact this
  · intro h
    refine list_ext (by rw [tab_len, List.length_replicate]) fun i hi => ?_
    rw [tab_len] at hi
    rw [tab_get _ hi, replicate_get, h.at_ (pol_low f) i hi]
theorem pdoL_at {f v : List Int} : Eqv p n (atV (pdoL p n xs f v)) (doF n (atF n xs) f.length (pol p f).co (atV v)) := fun i hi => by
  unfold atV
  rw [pdoL_get hi, Int.emod_emod]
  exact (doF_pol f _ _ i hi).symm
/-- a sum does the sum -/
theorem pdoL_add {f g s v : List Int} (h : pol p s = pol p f + pol p g) {i : Nat} (hi : i < n) : (pdoL p n xs s v).getD i 0 = ((pdoL p n xs f v).getD i 0 + (pdoL p n xs g v).getD i 0) % p := by
  have lf := (pol_low (p := p) f).mono (show f.length ≤ f.length + g.length by omega)
  have lg := (pol_low (p := p) g).mono (show g.length ≤ f.length + g.length by omega)
  rw [pdoL_ser lf, pdoL_ser lg, pdoL_ser (f := s) (d := f.length + g.length) (by rw [h]; exact lf.add lg), tab_get _ hi, tab_get _ hi, tab_get _ hi, ma_l, ma_r, h]
  unfold doF
  rw [← sm_add]
  exact sm_mod fun k _ => by rw [Ser.add_co, mm_l, Int.add_mul]
/-- a product does one behind the other -/
theorem pdoL_mul {f g t v : List Int} (h : pol p t = pol p f * pol p g) : pdoL p n xs t v = pdoL p n xs f (pdoL p n xs g v) := by
  rw [pdoL_ser (f := t) (d := f.length + g.length) (by rw [h]; exact ((pol_low f).mul (pol_low g)).mono (by omega)), pdoL_ser (pol_low f), h]
  refine tab_congr fun i hi => ?_
  rw [do_mul (pol_low f) (pol_low g) (atV v) i hi]
  exact (do_mod pdoL_at (fun _ _ => rfl) i hi).symm
/-- x does the matrix -/
theorem pdoL_x {v : List Int} : pdoL p n xs [0, 1] v = timesL p n n xs v :=
  list_ext (by rw [pdoL_len, timesL_len]) fun i hi => by
    rw [pdoL_len] at hi
    rw [pdoL_get hi, times_at hi]
    show (0 + 0 * _ + 1 * mapF n (atF n xs) (atV v) i) % p = _
    rw [Int.zero_mul, Int.zero_add, Int.zero_add, Int.one_mul]
/-- from the greatest power down -/
theorem doF_horner (A : Nat → RowF) (d : Nat) (f : Nat → Int) (v : RowF) (k : Nat) : doF n A (d + 1) (fun j => f (k + j)) v = fun i => f k * v i + mapF n A (doF n A d (fun j => f (k + 1 + j)) v) i := by
  funext i
  unfold doF
  rw [sm_head, map_sum]
  show f (k + 0) * v i + _ = _
  refine congrArg _ (sm_congr fun j _ => ?_)
  show f (k + (j + 1)) * _ = _
  rw [show k + (j + 1) = k + 1 + j by omega]
  rfl
/-- what is done by the powers from k on -/
def fromL (p : Int) (n : Nat) (xs f v : List Int) (k : Nat) : List Int := tab n fun i => doF n (atF n xs) (f.length - k) (fun j => f.getD (k + j) 0) (atV v) i % p
theorem fromL_zero (f v : List Int) : fromL p n xs f v 0 = pdoL p n xs f v := by
  unfold fromL pdoL
  refine tab_congr fun i _ => ?_
  rw [Nat.sub_zero]
  congr 2
  funext j
  rw [Nat.zero_add]
theorem fromL_end (f v : List Int) : fromL p n xs f v f.length = List.replicate n 0 := by
  unfold fromL
  refine list_ext (by rw [tab_len, List.length_replicate]) fun i hi => ?_
  rw [tab_len] at hi
  rw [tab_get _ hi, replicate_get, Nat.sub_self]
  exact Int.zero_emod p
theorem fromL_len (f v : List Int) (k : Nat) : (fromL p n xs f v k).length = n := tab_len _ _
theorem fromL_rng (hp : 2 ≤ p) (f v : List Int) (k : Nat) : Rng p (fromL p n xs f v k) := tab_rng fun _ _ => mod_range _ hp
theorem fromL_step {f v : List Int} {k i : Nat} (hk : k < f.length) (hi : i < n) : (fromL p n xs f v k).getD i 0 = ((timesL p n n xs (fromL p n xs f v (k + 1))).getD i 0 + f.getD k 0 * v.getD i 0 % p) % p := by
  unfold fromL
  rw [tab_get _ hi, times_at hi, ma_l, ma_r, show f.length - k = f.length - (k + 1) + 1 by omega, doF_horner (atF n xs) _ (fun j => f.getD j 0)]
  show (f.getD k 0 * v.getD i 0 + _) % p = _
  rw [Int.add_comm, Int.add_emod, Int.add_emod (mapF _ _ _ _)]
  refine congrArg (fun z => (z + _) % p) (map_mod (fun j hj => ?_) i)
  show _ = (tab n _).getD j 0 % p
  rw [tab_get _ hj, Int.emod_emod]

/-! ### own polynomials, as lists -/
/-- a vector's own polynomial -/
def OwnL (p : Int) (n : Nat) (xs v g : List Int) : Prop := IsOwn p n (atF n xs) (fun u => u = atV v) g
/-- a matrix's own polynomial -/
def MinL (p : Int) (n : Nat) (xs h : List Int) : Prop := IsMin p n (atF n xs) h
def unitL (n i : Nat) : List Int := tab n fun k => if k = i then 1 else 0
theorem unitL_at {i : Nat} : Eqv p n (atV (unitL n i)) (uniF i) := fun j hj => by
  unfold atV unitL uniF
  rw [tab_get _ hj]
theorem OwnL.any (hp : HasInv p) (n : Nat) (xs v : List Int) : ∃ g, OwnL p n xs v g := IsOwn.any hp _
theorem MinL.any (hp : HasInv p) (n : Nat) (xs : List Int) : ∃ h, MinL p n xs h := IsOwn.any hp _
theorem OwnL.unit {i : Nat} {g : List Int} (h : OwnL p n xs (unitL n i) g) : IsOwn p n (atF n xs) (fun u => u = uniF i) g :=
  ⟨h.isp, h.ne, h.mon, fun v hv => by
    have := h.kil _ rfl
    rw [hv]; exact this.congr unitL_at.symm, fun f hf hk => h.dvd f hf fun v hv => by
    rw [hv]; exact (hk _ rfl).congr unitL_at⟩
end Go.Proofs.YtijpeepdedfhoaaGreat
/- A vector's own polynomial, found as what a matrix of its powers takes to 0, or as what makes the last power (in plain Lean; nothing of a program). -/
namespace Go.Proofs.YtijpeepdedfhoaaGreat
variable {p : Int} {n : Nat} {xs C v : List Int}

/-- the columns are the powers -/
def PowC (p : Int) (n : Nat) (xs v C : List Int) : Prop := ∀ i k, i < n → k < n → C.getD (i * n + k) 0 = (powL p n xs k v).getD i 0
theorem PowC.app (h : PowC p n xs v C) (hp : 2 ≤ p) (hv : Rng p v) (z : Nat → Int) {i : Nat} (hi : i < n) : appF n (rowOf n C) z i % p = doF n (atF n xs) n z (atV v) i % p := by
  unfold appF doF
  refine sm_mod fun k hk => ?_
  rw [show (rowOf n C i).getD k 0 = C.getD (i * n + k) 0 from tab_get _ hk, h i k hi hk, powL_get hp hv hi, mm_l, Int.mul_comm]
/-- what is taken to 0 by all rows is 0 by all rests -/
theorem rest_zero {m : Nat} {R : Nat → List Int} {st : ElE} (hp : HasInv p) (h : ElOk p n R m st) {y : Nat → Int} (hy : ∀ i, i < m → appF n R y i % p = 0) {k : Nat} (hk : k < st.U.length) : (sm n fun j => (st.U.getD k []).getD j 0 * y j) % p = 0 := by
  obtain ⟨c, hc⟩ := (h.bas hp).own k hk
  have e1 : (sm n fun j => (st.U.getD k []).getD j 0 * y j) % p = (sm n fun j => (sm m fun i => c i * lf (R i) j) * y j) % p := sm_mod fun j hj => by
    rw [← mm_l, show (st.U.getD k []).getD j 0 % p = (sm m fun i => c i * lf (R i) j) % p from hc j hj, mm_l]
  rw [e1, sm_congr (g := fun j => sm m fun i => c i * (lf (R i) j * y j)) fun j _ => by rw [← sm_mul_r]; exact sm_congr fun i _ => Int.mul_assoc _ _ _, sm_comm]
  refine sm_mz fun i hi => ?_
  rw [sm_mul]
  exact mz_mul (hy i hi) _
/-- no own column is so far on as the own polynomial's degree -/
theorem PowC.cols (hC : PowC p n xs v C) (ok : MatOk p n n C) (hf : Fld p) (hv : Rng p v) {g : List Int} (hg : OwnL p n xs v g) : ∀ j, j ∈ (takeL p n n C).cols → j < g.length - 1 := by
  have hp := (rightB_true ok.hp).1
  have h := takeL_ok (m := n) (n := n) hp hf ok.hx
  intro j hj
  refine Classical.byContradiction fun hlt => ?_
  have hg0 := List.length_pos_iff.2 hg.ne
  obtain ⟨k, hk, e⟩ := List.getElem_of_mem hj
  have hku : k < (takeL p n n C).U.length := by rw [← h.lk]; exact hk
  have e' : (takeL p n n C).cols.getD k 0 = j := by rw [List.getD, List.getElem?_eq_getElem hk]; exact e
  obtain ⟨r1, r2, r3, r4, r5, r6⟩ := h.row k hku
  rw [e'] at r3 r5 r6
  -- x to a power, times the own polynomial, is 1 at j and 0 behind
  have hk0 : Kil p n (atF n xs) (Ser.up (j - (g.length - 1)) (pol p g)) (atV v) := by
    have h1 := (hg.kil _ rfl).mul (q := Ser.up (j - (g.length - 1)) 1) ⟨_, (Ser.low_C 1).up _⟩
    rwa [Ser.up_mul, Ser.one_mul] at h1
  have hl : (Ser.up (j - (g.length - 1)) (pol p g)).low (j + 1) := ((pol_low g).up _).mono (by omega)
  have htop : (Ser.up (j - (g.length - 1)) (pol p g)).co j = 1 := by
    rw [Ser.up_co, if_neg (by omega), show j - (j - (g.length - 1)) = g.length - 1 by omega, hg.isp.rng.co]
    exact hg.mon
  have hz := rest_zero (hf.has hp) h (y := (Ser.up (j - (g.length - 1)) (pol p g)).co) (fun i hi => by
    rw [hC.app hp hv _ hi]
    exact hk0.at_ (hl.mono (by omega)) i hi) hku
  rw [sm_congr (g := fun t => if t = j then ((takeL p n n C).U.getD k []).getD t 0 else 0) fun t _ => by
    rcases Nat.lt_trichotomy t j with c | c | c
    · rw [r5 t c, if_neg (by omega), Int.zero_mul]
    · subst c; rw [htop, if_pos rfl, Int.mul_one]
    · rw [hl t (by omega), if_neg (by omega), Int.mul_zero], sm_single (fun t => ((takeL p n n C).U.getD k []).getD t 0) r3] at hz
  have hr := r2.getD hp j
  rw [mod_small hr.1 hr.2] at hz
  exact r6 hz
/-- what is taken to 0 is the own polynomial, and noughts -/
theorem PowC.kernel (hC : PowC p n xs v C) (ok : MatOk p n n C) (hf : Fld p) (hv : Rng p v) {g x : List Int} (hg : OwnL p n xs v g) (hx : IsK p n n C x) : trimL x = g := by
  have hp := (rightB_true ok.hp).1
  have hg0 := List.length_pos_iff.2 hg.ne
  have hcol := hC.cols ok hf hv hg
  have hlen := hg.len (hf.has hp)
  obtain ⟨c, hce⟩ : ∃ c, freeC n (takeL p n n C).cols = c := ⟨_, rfl⟩
  have hfree := hx.free
  have hoff := hx.off
  rw [hce] at hfree hoff
  have hkil : Kil p n (atF n xs) (pol p x) (atV v) := ⟨n, by rw [← hx.len]; exact pol_low x, fun i hi => by
    rw [← hC.app hp hv _ hi]
    have h1 := times_get (p := p) (n := n) (xs := C) (x := x) hi
    rw [hx.sol, replicate_get] at h1
    rw [h1]
    exact app_mod (fun j _ => by rw [hx.rng.co]; rfl) i⟩
  have hle : c ≤ g.length - 1 := by
    refine Classical.byContradiction fun hn => ?_
    have h1 := freeC_low (n := n) (cols := (takeL p n n C).cols) (j := g.length - 1) (by rw [hce]; omega)
    have := hcol _ h1
    omega
  have hx0 : ∀ j, g.length - 1 ≤ j → j ≠ c → x.getD j 0 = 0 := fun j hj hne => by
    rcases Nat.lt_or_ge j n with q | q
    · exact hoff j q (fun hm => by have := hcol j hm; omega) hne
    · exact getD_over (by rw [hx.len]; exact q)
  have hcs : c = g.length - 1 := by
    refine Classical.byContradiction fun hn => ?_
    have h0 := hg.less hp (f := pol p x) (fun k hk => by rw [hx.rng.co]; exact hx0 k hk (by omega)) fun u hu => hu ▸ hkil
    have h1 : (pol p x).co c = 1 := by rw [hx.rng.co]; exact hfree
    rw [h0, Ser.zero_co] at h1
    omega
  have he := hg.eq hp (f := pol p x) (fun k hk => by rw [hx.rng.co]; exact hx0 k (by omega) (by omega)) (by rw [← hcs, hx.rng.co]; exact hfree) fun u hu => hu ▸ hkil
  have ht := trimL_pol hx.rng
  exact ht.1.inj hg.isp (by rw [ht.2, he])
/-- if all columns are own, the own polynomial has the full degree, and the last power's numbers, each taken from 0 -/
theorem PowC.full (hC : PowC p n xs v C) (ok : MatOk p n n C) (hf : Fld p) (hv : Rng p v) {g : List Int} (hg : OwnL p n xs v g) (hc : ¬ freeC n (takeL p n n C).cols < n) : g.length = n + 1 := by
  have hp := (rightB_true ok.hp).1
  have hlen := hg.len (hf.has hp)
  have hg0 := List.length_pos_iff.2 hg.ne
  refine Classical.byContradiction fun hn => ?_
  have hcol := hC.cols ok hf hv hg
  have := hcol (g.length - 1) (freeC_low (n := n) (by omega))
  omega
theorem PowC.sol (hC : PowC p n xs v C) (ok : MatOk p n n C) (hf : Fld p) (hv : Rng p v) (hvl : v.length = n) {g : List Int} (hg : OwnL p n xs v g) (hl : g.length = n + 1) : ∃ z, IsX p n n C (powL p n xs n v) z ∧ (tab n fun k => (0 - z.getD k 0) % p) ++ [1] = g := by
  have hp := (rightB_true ok.hp).1
  have hkil := (hg.kil _ rfl).at_ (d := n + 1) (by rw [← hl]; exact pol_low g)
  have h1 : (pol p g).co n = 1 := by
    rw [hg.isp.rng.co]
    have := hg.mon
    unfold lead at this
    rwa [hl, Nat.add_sub_cancel] at this
  have happ : ∀ i, i < n → appF n (rowOf n C) (fun k => -(pol p g).co k) i % p = atV (powL p n xs n v) i % p := fun i hi => by
    rw [hC.app hp hv _ hi, powL_mod n i hi]
    have h2 := hkil i hi
    have e : doF n (atF n xs) n (fun k => -(pol p g).co k) (atV v) i = -doF n (atF n xs) n (pol p g).co (atV v) i := by
      unfold doF
      rw [← sm_neg]
      exact sm_congr fun k _ => Int.neg_mul _ _
    rw [e, mz_sub]
    have h3 : doF n (atF n xs) (n + 1) (pol p g).co (atV v) i = doF n (atF n xs) n (pol p g).co (atV v) i + itF n (atF n xs) n (atV v) i := by
      show _ + (pol p g).co n * _ = _
      rw [h1, Int.one_mul]; rfl
    rw [h3] at h2
    have h4 := mz_neg h2
    rwa [show -(doF n (atF n xs) n (pol p g).co (atV v) i + itF n (atF n xs) n (atV v) i) = -doF n (atF n xs) n (pol p g).co (atV v) i - itF n (atF n xs) n (atV v) i by omega] at h4
  obtain ⟨z, hz⟩ := IsX.of ok hf (b := powL p n xs n v) (by rw [powL_len hvl n]) (powL_rng hp hv n) happ
  refine ⟨z, hz, ?_⟩
  have hz1 : ∀ i, i < n → itF n (atF n xs) n (atV v) i % p = (sm n fun k => z.getD k 0 * itF n (atF n xs) k (atV v) i) % p := fun i hi => by
    have h2 := times_get (p := p) (n := n) (xs := C) (x := z) hi
    rw [hz.sol, hC.app hp hv _ hi, powL_get hp hv hi] at h2
    exact h2
  have hz2 := hg.eq hp (f := topS p n fun k => z.getD k 0) (by rw [hl]; exact topS_low _ _) (by rw [hl, Nat.add_sub_cancel]; exact topS_top hp _ _) fun u hu => hu ▸ topS_kil hz1
  have hlen : ((tab n fun k => (0 - z.getD k 0) % p) ++ [1]).length = n + 1 := by rw [List.length_append, tab_len]; rfl
  refine list_ext (by rw [hlen, hl]) fun j hj => ?_
  rw [hlen] at hj
  rw [← hg.isp.rng.co, ← hz2]
  show _ = (if j = n then 1 else if j < n then - z.getD j 0 else 0) % p
  rcases Nat.lt_or_ge j n with c | c
  · rw [if_neg (by omega), if_pos c, getD_app _ _ _ (by rw [tab_len]; exact c), tab_get _ c, Int.zero_sub]
  · obtain rfl : j = n := by omega
    have e1 : ((tab j fun k => (0 - z.getD k 0) % p) ++ [1]).getD j 0 = 1 := getD_end _ _ _ (tab_len _ _).symm
    rw [if_pos rfl, e1]
    exact (mod_small (by omega) (by omega)).symm
end Go.Proofs.YtijpeepdedfhoaaGreat
/- Package krylov: what is asked of a matrix and a vector; numbers that are taken from 0. -/
namespace Go.Proofs.YtijpeepdedfhoaaGreat
open Go.RowKit Go.Maps

def squareB (p r c : Int) (xs : List Int) : Bool := decide (r = c) && matB p r c xs
theorem squareB_ok {p : Int} {n : Nat} {xs : List Int} (ok : MatOk p n n xs) : squareB p n n xs = true := by
  unfold squareB
  rw [decide_eq_true rfl, ok.b]; rfl
theorem squareB_of {p r c : Int} {xs : List Int} (hx : U64s xs) (h : squareB p r c xs = true) : ∃ n : Nat, r = n ∧ c = n ∧ MatOk p n n xs := by
  unfold squareB at h
  simp only [Bool.and_eq_true, decide_eq_true_eq] at h
  obtain ⟨m, n, e1, e2, ok⟩ := MatOk.of hx h.2
  obtain rfl : m = n := by have := h.1; omega
  exact ⟨m, e1, e2, ok⟩
set_option maxHeartbeats 1000000 in
theorem krSquare (p r c : Int) (v : Value) (xs : List Int) (w : World) (h0 : 0 ≤ p) (h1 : p ≤ 18446744073709551615) (hv : Ints .u64 w v xs) (hx : U64s xs) :
    Calls Tryz.prog 55 #[.int .u64 p, matV r c v] w (Ret (.bool (squareB p r c xs)) w) := by
  have C1 := hid fun (W : World) (hW : Ext w W) => mxRight p r c v xs W h0 h1 (hv.ext hW) hx
  obtain ⟨a, cap, rfl, k1, k2, k3⟩ := hv
  clear k3 hx
  unfold squareB
  unfold matV at C1
  unfold matV
  have hA := hid (Blk.new w 25 #[.int .i64 r, .int .i64 c, .slice a xs.length cap])
  obtain ⟨b0, b1, b2⟩ := hA.out.at3
  obtain ⟨B, hB⟩ : ∃ B, matB p r c xs = B := ⟨_, rfl⟩
  rw [hB] at C1 ⊢
  clear hB
  by_cases e : r = c
  · have e0 : (r == c) = true := by simp [e]
    rw [decide_eq_true e]
    clear e
    go_enter Tryz.func55, Tryz.ntmps55
    go_wp2_with (go_at_call 9; refine (C1.out _ (by repeat (first | exact Ext.refl _ | assumption | refine Ext.drew ?_ | refine Ext.drewN ?_ _ | refine Ext.alloc ?_ _ | refine Ext.trans ?_ (by assumption)))).mono ?_; rintro _ w1 ⟨rfl, x1⟩)
    go_ret
    exact ⟨ret_bool (by simp), Ext.trans (by repeat (first | exact Ext.refl _ | assumption | refine Ext.drew ?_ | refine Ext.drewN ?_ _ | refine Ext.alloc ?_ _ | refine Ext.trans ?_ (by assumption))) x1⟩
  · have e0 : (r == c) = false := by simp [e]
    rw [decide_eq_false e]
    clear e
    go_enter Tryz.func55, Tryz.ntmps55
    go_wp2_with fail
    go_ret
    exact ⟨ret_bool (by simp), (by repeat (first | exact Ext.refl _ | assumption | refine Ext.drew ?_ | refine Ext.drewN ?_ _ | refine Ext.alloc ?_ _ | refine Ext.trans ?_ (by assumption)))⟩

def besideB (p r c : Int) (xs b : List Int) : Bool := squareB p r c xs && vecB p r b
theorem besideB_ok {p : Int} {n : Nat} {xs b : List Int} (ok : MatOk p n n xs) (hb : b.length = n) (hr : Rng p b) : besideB p n n xs b = true := by
  unfold besideB
  rw [squareB_ok ok, vecB_yes ok.hp hr hb]; rfl
theorem besideB_of {p r c : Int} {xs b : List Int} (hx : U64s xs) (hb : U64s b) (h : besideB p r c xs b = true) : ∃ n : Nat, r = n ∧ c = n ∧ MatOk p n n xs ∧ b.length = n ∧ Rng p b := by
  unfold besideB at h
  simp only [Bool.and_eq_true] at h
  obtain ⟨n, e1, e2, ok⟩ := squareB_of hx h.1
  obtain ⟨-, h2, h3⟩ := vecB_true hb h.2
  exact ⟨n, e1, e2, ok, by omega, h2⟩
set_option maxHeartbeats 1000000 in
theorem krBeside (p r c : Int) (v u : Value) (xs b : List Int) (w : World) (h0 : 0 ≤ p) (h1 : p ≤ 18446744073709551615) (hv : Ints .u64 w v xs) (hx : U64s xs) (hu : Ints .u64 w u b) (hb : U64s b) :
    Calls Tryz.prog 81 #[.int .u64 p, matV r c v, u] w (Ret (.bool (besideB p r c xs b)) w) := by
  have C1 := hid fun (W : World) (hW : Ext w W) => krSquare p r c v xs W h0 h1 (hv.ext hW) hx
  have C2 := hid fun (W : World) (hW : Ext w W) => has_any p u b W h0 h1 (hu.ext hW) hb
  obtain ⟨a, cap, rfl, k1, k2, k3⟩ := hv
  obtain ⟨a', cap', rfl, k1', k2', k3'⟩ := hu
  clear k3 k3' hx hb
  unfold besideB vecB
  unfold matV at C1
  unfold matV
  have hA := hid (Blk.new w 25 #[.int .i64 r, .int .i64 c, .slice a xs.length cap])
  obtain ⟨b0, b1, b2⟩ := hA.out.at3
  obtain ⟨B, hB⟩ : ∃ B, hasB p b = B := ⟨_, rfl⟩
  rw [hB] at C2 ⊢
  cases hS : squareB p r c xs
  · rw [hS] at C1
    clear hB hS
    go_enter Tryz.func81, Tryz.ntmps81
    go_wp2_with (go_at_call 55; refine (C1.out _ (by repeat (first | exact Ext.refl _ | assumption | refine Ext.drew ?_ | refine Ext.drewN ?_ _ | refine Ext.alloc ?_ _ | refine Ext.trans ?_ (by assumption)))).mono ?_; rintro _ w1 ⟨rfl, x1⟩)
    go_ret
    exact ⟨ret_bool (by simp), Ext.trans (by repeat (first | exact Ext.refl _ | assumption | refine Ext.drew ?_ | refine Ext.drewN ?_ _ | refine Ext.alloc ?_ _ | refine Ext.trans ?_ (by assumption))) x1⟩
  · rw [hS] at C1
    clear hB hS
    by_cases e : (b.length : Int) = r
    · have e0 : ((b.length : Int) == r) = true := by simp [e]
      rw [decide_eq_true e]
      clear e
      go_enter Tryz.func81, Tryz.ntmps81
      go_wp2_with (first
        | (go_at_call 55; refine (C1.out _ (by repeat (first | exact Ext.refl _ | assumption | refine Ext.drew ?_ | refine Ext.drewN ?_ _ | refine Ext.alloc ?_ _ | refine Ext.trans ?_ (by assumption)))).mono ?_; rintro _ w1 ⟨rfl, x1⟩; obtain ⟨d0, d1, d2⟩ := (hA.out.ext x1).at3)
        | (go_at_call 30; refine (C2.out _ (Ext.trans (by repeat (first | exact Ext.refl _ | assumption | refine Ext.drew ?_ | refine Ext.drewN ?_ _ | refine Ext.alloc ?_ _ | refine Ext.trans ?_ (by assumption))) x1)).mono ?_; rintro _ _ ⟨rfl, rfl⟩))
      go_ret
      exact ⟨ret_bool (by simp), Ext.trans (by repeat (first | exact Ext.refl _ | assumption | refine Ext.drew ?_ | refine Ext.drewN ?_ _ | refine Ext.alloc ?_ _ | refine Ext.trans ?_ (by assumption))) x1⟩
    · have e0 : ((b.length : Int) == r) = false := by simp [e]
      rw [decide_eq_false e]
      clear e
      go_enter Tryz.func81, Tryz.ntmps81
      go_wp2_with (go_at_call 55; refine (C1.out _ (by repeat (first | exact Ext.refl _ | assumption | refine Ext.drew ?_ | refine Ext.drewN ?_ _ | refine Ext.alloc ?_ _ | refine Ext.trans ?_ (by assumption)))).mono ?_; rintro _ w1 ⟨rfl, x1⟩; obtain ⟨d0, d1, d2⟩ := (hA.out.ext x1).at3)
      go_ret
      exact ⟨ret_bool (by simp), Ext.trans (by repeat (first | exact Ext.refl _ | assumption | refine Ext.drew ?_ | refine Ext.drewN ?_ _ | refine Ext.alloc ?_ _ | refine Ext.trans ?_ (by assumption))) x1⟩

/-- each number, taken from 0 -/
def negL (p : Int) (xs : List Int) : List Int := tab xs.length fun k => (0 - xs.getD k 0) % p
theorem negL_len (p : Int) (xs : List Int) : (negL p xs).length = xs.length := tab_len _ _
/-- numbers as a block's cells -/
theorem ints_at {l : List Int} {k : Nat} (h : k < l.length) : ((l.map (Value.int .u64)).toArray)[k]? = some (.int .u64 (l.getD k 0)) := by
  simp [List.getD, h]
theorem ints_set (l : List Int) (k : Nat) (x : Int) : ((l.map (Value.int .u64)).toArray).setIfInBounds k (.int .u64 x) = ((l.set k x).map (Value.int .u64)).toArray := by
  simp [List.map_set]
theorem made_cellsN (n : Nat) : (madeCells #[Value.int .u64 0] n) = ((List.replicate n (0 : Int)).map (Value.int .u64)).toArray := by
  simp [madeCells]
  apply Array.ext
  · simp
  · intro i h1 h2
    simp [Nat.mod_one]
theorem own_of_blk {w : World} {g base : Nat} {l : List Int} (h : Blk w g 22 (l.map (Value.int .u64)).toArray) (hb : base ≤ g) (hl : l.length ≤ 1000000) : w.ownsRow base 22 1 (.slice (some ⟨g, 0, none⟩) l.length l.length) l.length (l.map (Value.int .u64)) :=
  ⟨by simp, .inr ⟨g, l.length, _, rfl, hb, h, Nat.le_refl _, by unfold maxLen; omega, by simp, by have := List.take_of_length_le (l := l.map (Value.int .u64)) (i := l.length) (by simp); simpa using this⟩⟩
set_option maxRecDepth 100000 in
set_option maxHeartbeats 1000000 in
theorem krFrom0 (p : Int) (v : Value) (xs : List Int) (w : World) (hp : rightB p = true) (hv : Ints .u64 w v xs) (hx : Rng p xs) (hl : xs.length ≤ 64) :
    Calls Tryz.prog 93 #[.int .u64 p, v] w fun e w' => ∃ g, e = .returned (.slice (some ⟨g, 0, none⟩) xs.length xs.length) ∧ w'.ownsRow w.heap.size 22 1 (.slice (some ⟨g, 0, none⟩) xs.length xs.length) xs.length ((negL p xs).map (Value.int .u64)) ∧ Ext w w' := by
  have hp2 := rightB_true hp
  obtain ⟨a, cap, rfl, k1, k2, k3⟩ := hv
  have K3 := hid k3; have Hx := hid hx; have Hp := hid hp
  clear k3 hp hx
  obtain ⟨n, hn⟩ : ∃ n, xs.length = n := ⟨_, rfl⟩
  have Hn := hid hn
  rw [hn] at k1 K3 hl ⊢
  clear hn
  have hmk := make_ints (P := Tryz.prog) 23 22 .u64 8 (by omega) (by kernel_rfl) (by kernel_rfl) n n (Nat.le_refl _) (by omega)
  have hrow := hid (show Blk (w.alloc (.cells (madeCells #[Value.int .u64 0] n) 22)) w.heap.size 22 ((List.replicate n (0 : Int)).map (Value.int .u64)).toArray from by rw [← made_cellsN]; exact Blk.new _ _ _)
  have hrl := hid (List.length_replicate (n := n) (a := (0 : Int)))
  go_enter Tryz.func93, Tryz.ntmps93
  go_wp2_with fail
  obtain ⟨g, hg⟩ : ∃ g, w.heap.size = g := ⟨_, rfl⟩
  have hgw : w.heap.size ≤ g := by omega
  obtain ⟨w0, hw0⟩ : ∃ w0, w.alloc (.cells (madeCells #[Value.int .u64 0] n) 22) = w0 := ⟨_, rfl⟩
  have hx0 : Ext w w0 := hw0 ▸ (Ext.refl w).alloc _
  rw [hg, hw0] at hrow
  rw [hg, hw0]
  clear hg hw0 hmk
  go_loopw [13] (fun i wr => ∃ (k : Nat) (l : List Int), i = .int .i64 k ∧ k ≤ n ∧ Hid (l.length = n) ∧ Hid (∀ j, l.getD j 0 = if j < k then (0 - xs.getD j 0) % p else 0) ∧ Blk wr g 22 (l.map (Value.int .u64)).toArray ∧ Ext w wr) (fun i _ => n - (intOf i).toNat)
  case atStart => exact ⟨0, _, rfl, Nat.zero_le _, hrl, hid (fun j => by rw [replicate_get]; simp), hrow.out, hx0⟩
  case round =>
    obtain ⟨k, l, rfl, hk, hln, hl2, hrw, hxw⟩ := hrel
    clear hx0
    have Hrw := hid hrw
    clear hrw
    by_cases hlt : k < n
    · obtain ⟨b, off, rfl, hb, hcell⟩ := K3.out (by omega)
      have g1 := (hxw.cells _ _ hb).trans (hcell k hlt)
      have r1 := Hx.out.get (k := k) (by rw [Hn.out]; exact hlt)
      obtain ⟨y, ey⟩ : ∃ y, xs.getD k 0 = y := ⟨_, rfl⟩
      rw [ey] at g1 r1
      obtain ⟨r, er, r3, r4⟩ := name_mod (p := p) (0 - y) hp2.1
      have Er := hid er; have Ey := hid ey
      clear er ey hcell
      go_wp2_with fail
      refine (sub_as p 0 y r _ Hp.out (by omega) (by omega) r1.1 r1.2 Er.out).mono ?_
      rintro _ w3 ⟨rfl, x3⟩
      have g2 := (Hrw.out.ext x3).cell k
      rw [ints_at (by rw [hln.out]; exact hlt)] at g2
      have f2 := (Hrw.out.ext x3).frozen k
      go_wp2_with fail
      go_roundw
      case rel =>
        have hs := (Hrw.out.ext x3).set_ k (.int .u64 r)
        rw [ints_set] at hs
        refine ⟨k + 1, l.set k r, by go_num, by omega, hid (by rw [List.length_set]; exact hln.out), hid (fun j => ?_), hs, (hxw.trans x3).setCell (p := ⟨g, k, none⟩) hgw _⟩
        rw [set_get l k j r (by rw [hln.out]; omega), hl2.out]
        by_cases e : k = j
        · subst e
          rw [if_pos rfl, if_pos (by omega), Ey.out, Er.out]
        · rw [if_neg e]
          by_cases e2 : j < k
          · rw [if_pos e2, if_pos (by omega)]
          · rw [if_neg e2, if_neg (by omega)]
      case measure => simp [intOf]; omega
    · obtain rfl : n = k := by omega
      go_wp2_with fail
      go_ret
      have e : negL p xs = l := list_ext (by rw [negL_len, Hn.out, hln.out]) fun j hj => by
        rw [negL_len, Hn.out] at hj
        rw [hl2.out, if_pos hj]
        exact tab_get _ (by rw [Hn.out]; exact hj)
      have ho := own_of_blk Hrw.out hgw (by rw [hln.out]; omega)
      rw [hln.out] at ho
      exact ⟨g, rfl, e ▸ ho, hxw⟩
end Go.Proofs.YtijpeepdedfhoaaGreat
/- Package krylov: Powers. -/
namespace Go.Proofs.YtijpeepdedfhoaaGreat
open Go.RowKit Go.Maps

/-- so many of a list's powers -/
def powsL (p : Int) (n : Nat) (xs v : List Int) (many : Nat) : List (List Int) := (List.range many).map fun k => powL p n xs k v
theorem powsL_len (p : Int) (n : Nat) (xs v : List Int) (many : Nat) : (powsL p n xs v many).length = many := by simp [powsL]
theorem powsL_get {p : Int} {n many k : Nat} {xs v : List Int} (h : k < many) : (powsL p n xs v many).getD k [] = powL p n xs k v := by simp [powsL, List.getD, h]
/-- rows, and room for more -/
def roomS (us : List Value) (m : Nat) : Array Value := (us ++ List.replicate m (Value.slice none 0 0)).toArray
theorem roomS_get {us : List Value} {m j : Nat} (h : j < us.length) : (roomS us m)[j]? = some (us.getD j undef) := by
  simp only [roomS, List.getElem?_toArray]
  rw [List.getElem?_append_left h]
  simp [List.getD, h]
theorem roomS_room {us : List Value} {m j : Nat} (h1 : us.length ≤ j) (h : j < us.length + m) : (roomS us m)[j]? = some (.slice none 0 0) := by
  simp only [roomS, List.getElem?_toArray]
  rw [List.getElem?_append_right h1, List.getElem?_replicate, if_pos (by omega)]
theorem roomS_set {us : List Value} {m k : Nat} (h : us.length = k) (u : Value) : (roomS us (m + 1)).setIfInBounds k u = roomS (us ++ [u]) m := by
  subst h
  simp [roomS, List.replicate_succ]
theorem made_room (n : Nat) : (madeCells #[Value.slice none 0 0] n) = roomS [] n := by
  unfold roomS madeCells
  rw [Array.ext_iff]
  refine ⟨by simp, fun i h1 h2 => ?_⟩
  have e : i % 1 = 0 := by omega
  simp [e]
/-- rows of numbers in a block of slices: a list of numbers lies elsewhere -/
theorem room_apart {W : World} {g m : Nat} {t : TypeId} {us : List Value} (hB : Blk W g t (roomS us m)) (hu : ∀ j, j < us.length → ∃ a l c, us.getD j undef = .slice a l c) {v : Value} {xs : List Int} (hi : Ints .u64 W v xs) (hl : 0 < xs.length) : ∀ b, v.ownBlock = some b → b ≠ g := fun b hb e => by
  obtain ⟨a, cap, rfl, h1, h2, h3⟩ := hi
  obtain ⟨b', off, rfl, hb', hc⟩ := h3 hl
  have e1 : b' = b := by simpa [Value.ownBlock] using hb
  subst e1; subst e
  have hc0 := hc 0 hl
  rw [hB.cell] at hc0
  rcases Nat.lt_or_ge (off + 0) us.length with c | c
  · obtain ⟨a, l, c', e⟩ := hu _ c
    rw [roomS_get c, e] at hc0
    cases hc0
  · rcases Nat.lt_or_ge (off + 0) (us.length + m) with c' | c'
    · rw [roomS_room c c'] at hc0
      cases hc0
    · rw [roomS, List.getElem?_toArray, List.getElem?_eq_none (by simp; omega)] at hc0
      cases hc0
theorem Ints.setOther {k : IntKind} {w : World} {v : Value} {xs : List Int} (h : Ints k w v xs) {g : Nat} (hg : ∀ b, v.ownBlock = some b → b ≠ g) (i : Nat) (u : Value) : Ints k (w.setCell ⟨g, i, none⟩ u) v xs :=
  h.grown (setCell_grown w ⟨g, i, none⟩ u) fun b hb e => hg b hb (by injection e with e; exact e.symm)

set_option maxRecDepth 100000 in
set_option maxHeartbeats 1000000 in
theorem krPowers_no (p r c many : Int) (v u : Value) (xs b : List Int) (w : World) (h0 : 0 ≤ p) (h1 : p ≤ 18446744073709551615) (hv : Ints .u64 w v xs) (hx : U64s xs) (hu : Ints .u64 w u b) (hb : U64s b) (h : (decide (0 ≤ many ∧ many ≤ 200) && besideB p r c xs b) = false) :
    Calls Tryz.prog 74 #[.int .u64 p, matV r c v, u, .int .i64 many] w (Ret (.tuple #[.slice none 0 0, .int .i64 1]) w) := by
  have C1 := hid fun (W : World) (hW : Ext w W) => krBeside p r c v u xs b W h0 h1 (hv.ext hW) hx (hu.ext hW) hb
  obtain ⟨B, hB⟩ : ∃ B, besideB p r c xs b = B := ⟨_, rfl⟩
  rw [hB] at C1 h
  obtain ⟨a, cap, rfl, k1, k2, k3⟩ := hv
  clear k3 hx hb hu hB
  unfold matV at C1
  unfold matV
  by_cases e : many < 0
  · clear h C1
    go_enter Tryz.func74, Tryz.ntmps74
    go_wp2_with fail
    go_ret2
    exact ⟨rfl, (by repeat (first | exact Ext.refl _ | assumption | refine Ext.drew ?_ | refine Ext.drewN ?_ _ | refine Ext.alloc ?_ _ | refine Ext.trans ?_ (by assumption)))⟩
  · by_cases e2 : 200 < many
    · clear h C1
      go_enter Tryz.func74, Tryz.ntmps74
      go_wp2_with fail
      go_ret2
      exact ⟨rfl, (by repeat (first | exact Ext.refl _ | assumption | refine Ext.drew ?_ | refine Ext.drewN ?_ _ | refine Ext.alloc ?_ _ | refine Ext.trans ?_ (by assumption)))⟩
    · rw [decide_eq_true (by omega), Bool.true_and] at h
      subst h
      go_enter Tryz.func74, Tryz.ntmps74
      go_wp2_with (go_at_call 81; refine (C1.out _ (by repeat (first | exact Ext.refl _ | assumption | refine Ext.drew ?_ | refine Ext.drewN ?_ _ | refine Ext.alloc ?_ _ | refine Ext.trans ?_ (by assumption)))).mono ?_; rintro _ w1 ⟨rfl, x1⟩)
      go_ret2
      exact ⟨rfl, Ext.trans (by repeat (first | exact Ext.refl _ | assumption | refine Ext.drew ?_ | refine Ext.drewN ?_ _ | refine Ext.alloc ?_ _ | refine Ext.trans ?_ (by assumption))) x1⟩

/-- what Powers answers -/
def RetPows (ls : List (List Int)) (w : World) (e : Ending) (w' : World) : Prop := ∃ (g : Nat) (us : List Value), e = .returned (.tuple #[.slice (some ⟨g, 0, none⟩) ls.length ls.length, .int .i64 0]) ∧ us.length = ls.length ∧ Blk w' g 23 us.toArray ∧ (∀ j, j < ls.length → Ints .u64 w' (us.getD j undef) (ls.getD j [])) ∧ Ext w w'
set_option maxRecDepth 100000 in
set_option maxHeartbeats 1000000 in
theorem krPowers (p : Int) (n many : Nat) (v u : Value) (xs b : List Int) (w : World) (ok : MatOk p n n xs) (hv : Ints .u64 w v xs) (hu : Ints .u64 w u b) (hb : b.length = n) (hr : Rng p b) (hmany : many ≤ 200) :
    Calls Tryz.prog 74 #[.int .u64 p, matV n n v, u, .int .i64 many] w (RetPows (powsL p n xs b many) w) := by
  have hp2 := rightB_true ok.hp
  have C1 := hid fun (W : World) (hW : Ext w W) => krBeside p n n v u xs b W (by omega) (by omega) (hv.ext hW) ok.u64 (hu.ext hW) (hr.u64 hp2.2)
  rw [besideB_ok ok hb hr] at C1
  have C2 := hid fun (W : World) (z : Value) (zs : List Int) (hW : Ext w W) (hz : Ints .u64 W z zs) (hr : Rng p zs) (hl : zs.length = n) => mxTimes_yes p n n v z xs zs W ok (hv.ext hW) hz hr hl
  have C3 := hid fun (W : World) (hW : Ext w W) => clone_any u b W (hu.ext hW) (by have := ok.hm; omega)
  have hn := ok.hn
  have PL := hid fun (k : Nat) => powL_len (p := p) (xs := xs) hb k
  have PR := hid fun (k : Nat) => powL_rng (n := n) (xs := xs) hp2.1 hr k
  obtain ⟨F, hF⟩ : ∃ F : Nat → List Int, (fun k => powL p n xs k b) = F := ⟨_, rfl⟩
  have HF := hid (fun k => (congrFun hF k : powL p n xs k b = F k))
  have PG := hid fun (k : Nat) (h : k < many) => (powsL_get (p := p) (n := n) (xs := xs) (v := b) h).trans (HF.out k)
  have PN := hid (powsL_len p n xs b many)
  obtain ⟨L, hL⟩ : ∃ L, powsL p n xs b many = L := ⟨_, rfl⟩
  rw [hL] at PG PN ⊢
  unfold RetPows
  rw [PN.out]
  simp only [HF.out] at PL PR
  have PS := hid (show ∀ k, F (k + 1) = timesL p n n xs (F k) from fun k => by rw [← HF.out, ← HF.out]; rfl)
  have P0 := hid (show F 0 = b from (HF.out 0).symm)
  obtain ⟨a, cap, rfl, k1, k2, k3⟩ := hv
  obtain ⟨a', cap', rfl, k1', k2', k3'⟩ := hu
  rw [hb] at C1 C3 k1'
  rw [hb]
  unfold matV at C1 C2
  unfold matV
  have hA := hid (Blk.new w 25 #[.int .i64 (n : Int), .int .i64 (n : Int), .slice a xs.length cap])
  have hmk := make_rows (P := Tryz.prog) 96 23 24 (by omega) (by kernel_rfl) (by kernel_rfl) many many (Nat.le_refl _) (by omega)
  clear k3 k3' ok hr hF hL hb
  go_enter Tryz.func74, Tryz.ntmps74
  go_wp2_with (go_at_call 81; refine (C1.out _ (by repeat (first | exact Ext.refl _ | assumption | refine Ext.drew ?_ | refine Ext.drewN ?_ _ | refine Ext.alloc ?_ _ | refine Ext.trans ?_ (by assumption)))).mono ?_; rintro _ w1 ⟨rfl, x1⟩)
  obtain ⟨g, hg⟩ : ∃ g, w1.heap.size = g := ⟨_, rfl⟩
  have x0 : Ext w w1 := Ext.trans (by repeat (first | exact Ext.refl _ | assumption | refine Ext.drew ?_ | refine Ext.drewN ?_ _ | refine Ext.alloc ?_ _ | refine Ext.trans ?_ (by assumption))) x1
  have hA1 := hid (hA.out.ext x1)
  obtain ⟨w2, hw2⟩ : ∃ w2, w1.alloc (.cells (madeCells #[Value.slice none 0 0] many) 23) = w2 := ⟨_, rfl⟩
  have hB0 : Blk w2 g 23 (roomS [] many) := by rw [← made_room, ← hw2, ← hg]; exact Blk.new _ _ _
  have x2 : Ext w1 w2 := hw2 ▸ (Ext.refl w1).alloc _
  have hs2 : w2.heap.size = g + 1 := by rw [← hw2, ← hg]; simp
  rw [hg, hw2]
  clear hw2 hmk
  go_loopw [29] (fun i wr => ∃ (k : Nat) (us : List Value), i = .int .i64 k ∧ k ≤ many ∧ Hid (us.length = k) ∧ Hid (Blk wr g 23 (roomS us (many - k))) ∧ Hid (∀ j, j < k → Ints .u64 wr (us.getD j undef) (F j) ∧ ∃ a l c, us.getD j undef = .slice a l c) ∧ Ext w1 wr) (fun i _ => many - (intOf i).toNat)
  case atStart => exact ⟨0, [], rfl, Nat.zero_le _, hid rfl, hid hB0, hid (fun j hj => absurd hj (Nat.not_lt_zero _)), x2⟩
  case round =>
    obtain ⟨k, us, rfl, hk, hul, hB, hus, hxw⟩ := hrel
    clear hB0 x2
    have hgw : w1.heap.size ≤ g := by omega
    by_cases hlt : k < many
    · have hmk : many - k = many - (k + 1) + 1 := by omega
      rw [hmk] at hB
      have c0 := hB.out.cell k
      rw [roomS_room (by rw [hul.out]; exact Nat.le_refl _) (by rw [hul.out]; omega)] at c0
      have f0 := hB.out.frozen k
      clear hmk
      have KEY := hid fun (W : World) (u : Value) (hW : Ext wr W) (hi : Ints .u64 W u (F k)) (hs : ∃ a l c, u = .slice a l c) => (show Blk (W.setCell ⟨g, k, none⟩ u) g 23 (roomS (us ++ [u]) (many - (k + 1))) ∧ (∀ j, j < k + 1 → Ints .u64 (W.setCell ⟨g, k, none⟩ u) ((us ++ [u]).getD j undef) (F j) ∧ ∃ a l c, (us ++ [u]).getD j undef = .slice a l c) from by
        have hBW := hB.out.ext hW
        refine ⟨?_, fun j hj => ?_⟩
        · have := hBW.set_ k u
          rwa [roomS_set hul.out] at this
        · have hap : ∀ (z : Value) (j : Nat), Ints .u64 W z (F j) → ∀ b, z.ownBlock = some b → b ≠ g := fun z j hz => room_apart hBW (fun j hj => (hus.out j (by rw [← hul.out]; exact hj)).2) hz (by rw [PL.out]; omega)
          rcases Nat.lt_or_ge j k with c | c
          · rw [getD_app _ _ _ (by rw [hul.out]; exact c)]
            have h1 := (hus.out j c).1.ext hW
            exact ⟨h1.setOther (hap _ j h1) k u, (hus.out j c).2⟩
          · obtain rfl : j = k := by omega
            rw [getD_end _ _ _ hul.out.symm]
            exact ⟨hi.setOther (hap _ j hi) j u, hs⟩)
      rcases Nat.eq_zero_or_pos k with hk0 | hk0
      · have b0 : ((k : Int) == 0) = true := by rw [hk0]; rfl
        have FK : F k = b := by rw [hk0]; exact P0.out
        have HFK := hid FK
        have HK0 := hid hk0
        clear hk0 FK
        have FKL := hid (show (F k).length = n from PL.out k)
        go_wp2_with (go_at_call 36; refine (C3.out _ (x0.trans hxw)).mono ?_; rintro _ w5 ⟨a5, c5, rfl, q1, q2, q3, x5⟩
                     have d0 := (x5.cells _ _ (cell_lt c0)).trans c0
                     have e0 := (hB.out.ext x5).frozen k)
        have hi5 : Ints .u64 w5 (.slice a5 n c5) (F k) := by
          rw [HFK.out]
          have hbl : b.length = n := by rw [← HFK.out]; exact FKL.out
          obtain ⟨g5, rfl, q4, q5⟩ := q3 (by omega)
          exact q5.ints' hbl q1 q2
        have hkey := KEY.out w5 (.slice a5 n c5) x5 hi5 ⟨_, _, _, rfl⟩
        go_roundw
        case rel => exact ⟨k + 1, us ++ [.slice a5 n c5], by go_num, by omega, hid (by rw [List.length_append, hul.out]; rfl), hid hkey.1, hid hkey.2, (hxw.trans x5).setCell (p := ⟨g, k, none⟩) hgw _⟩
        case measure => simp [intOf]; omega
      · have b0 : ((k : Int) == 0) = false := by rw [beq_eq_false_iff_ne]; omega
        obtain ⟨m, hmk⟩ : ∃ m, k = m + 1 := ⟨k - 1, by omega⟩
        obtain ⟨u1, hu1⟩ : ∃ u1, us.getD m undef = u1 := ⟨_, rfl⟩
        have c1 := hB.out.cell m
        rw [roomS_get (by rw [hul.out]; omega), hu1] at c1
        obtain ⟨hi1, a1, l1, cp1, e1⟩ := hus.out m (by omega)
        rw [hu1] at hi1 e1
        subst e1
        have HI1 := hid hi1
        have HK0 := hid hk0
        have hw0 : IntKind.i64.wrap ((k : Int) - 1) = (m : Int) := by rw [show (k : Int) - 1 = (m : Int) by omega]; rw [IntKind.wrap_i64]; omega
        have hw1 : (0 : Int) ≤ (m : Int) := by omega
        have hw2 : (m : Int) < (many : Int) := by omega
        have hw3 : m < many := by omega
        have hFS : F k = timesL p n n xs (F m) := by rw [hmk]; exact PS.out m
        have HFS := hid hFS; have HMK := hid hmk
        have hAr := hA1.out.ext hxw
        obtain ⟨b1, b2, b3⟩ := hAr.at3
        have fs := hid fun (W : World) (hW : Ext wr W) => (show (W.cell? ⟨w.heap.size, 0, none⟩ = some (.int .i64 (n : Int)) ∧ W.cell? ⟨w.heap.size, 1, none⟩ = some (.int .i64 (n : Int)) ∧ W.cell? ⟨w.heap.size, 2, none⟩ = some (.slice a xs.length cap)) ∧ W.cell? ⟨g, m, none⟩ = some (.slice a1 l1 cp1) from
          ⟨(hAr.ext hW).at3, (hW.cells _ _ (cell_lt c1)).trans c1⟩)
        have fs2 := hid fun (W : World) (u : Value) (hW : Ext wr W) => (show ((W.setCell ⟨g, k, none⟩ u).cell? ⟨w.heap.size, 0, none⟩ = some (.int .i64 (n : Int)) ∧ (W.setCell ⟨g, k, none⟩ u).cell? ⟨w.heap.size, 1, none⟩ = some (.int .i64 (n : Int)) ∧ (W.setCell ⟨g, k, none⟩ u).cell? ⟨w.heap.size, 2, none⟩ = some (.slice a xs.length cap)) ∧ (W.setCell ⟨g, k, none⟩ u).cell? ⟨g, m, none⟩ = some (.slice a1 l1 cp1) from by
          have hgl := hA1.out.lt
          refine ⟨((hAr.ext hW).grown (setCell_grown W ⟨g, k, none⟩ u) (fun e => by injection e with e; exact absurd (show g = w.heap.size from e) (by omega))).at3, ?_⟩
          rw [((hB.out.ext hW).set_ k u).cell m, Array.getElem?_setIfInBounds_ne (by omega), ← (hB.out.ext hW).cell m, (hW.cells _ _ (cell_lt c1)).trans c1])
        clear hk0 hi1 hu1 hAr hFS hmk
        go_wp2_with fail
        go_region_held3 (fun w' => (w'.cell? ⟨w.heap.size, 0, none⟩ = some (.int .i64 (n : Int)) ∧ w'.cell? ⟨w.heap.size, 1, none⟩ = some (.int .i64 (n : Int)) ∧ w'.cell? ⟨w.heap.size, 2, none⟩ = some (.slice a xs.length cap)) ∧ w'.cell? ⟨g, m, none⟩ = some (.slice a1 l1 cp1))
          (first | assumption | exact fs.out _ ((Ext.refl wr).drew) | exact fs.out _ (((Ext.refl wr).drew).trans x5) | exact fs2.out _ _ (((Ext.refl wr).drew).trans x5))
          ((first
            | (go_at_call 52; refine (C2.out _ _ _ ((x0.trans hxw).trans ((Ext.refl wr).drew)) (HI1.out.ext ((Ext.refl wr).drew)) (PR.out m) (PL.out m)).mono ?_; rintro _ w5 ⟨z5, rfl, hi5, x5⟩
               have d0 := (((Ext.refl wr).drew.trans x5).cells _ _ (cell_lt c0)).trans c0
               have e0 := (hB.out.ext ((Ext.refl wr).drew.trans x5)).frozen k
               rw [← HFS.out] at hi5
               have HI5 := hid hi5
               obtain ⟨a5, c5, rfl, -, -, -⟩ := hi5)))
        have x6 : Ext wr w5 := (Ext.refl wr).drew.trans x5
        have hkey := KEY.out w5 (.slice a5 (F k).length c5) x6 HI5.out ⟨_, _, _, rfl⟩
        go_wp2_with fail
        go_roundw
        case rel => exact ⟨k + 1, us ++ [.slice a5 (F k).length c5], by go_num, by omega, hid (by rw [List.length_append, hul.out]; rfl), hid hkey.1, hid hkey.2, (hxw.trans x6).setCell (p := ⟨g, k, none⟩) hgw _⟩
        case measure => simp [intOf]; omega
    · obtain rfl : k = many := by omega
      rw [Nat.sub_self] at hB
      have hBf : Blk wr g 23 us.toArray := by
        have := hB.out
        unfold roomS at this
        rwa [List.replicate_zero, List.append_nil] at this
      go_wp2_with fail
      go_ret2
      exact ⟨g, us, rfl, hul.out, hBf, fun j hj => by rw [PG.out j hj]; exact (hus.out j hj).1, x0.trans hxw⟩
end Go.Proofs.YtijpeepdedfhoaaGreat
/- What the first look of layer 9's laws speaks of (in plain Lean; nothing of a program). -/
namespace Go.Proofs.YtijpeepdedfhoaaGreat

def xs9 : List Int := [0, 1, 6, 0]
theorem ok9 : MatOk 7 2 2 xs9 := ⟨by decide, by unfold Rng xs9; decide, by decide, by decide, rfl⟩
theorem min9 : MinL 7 2 xs9 [1, 0, 1] := by
  have h := IsOwn.of (p := 7) (n := 2) (A := atF 2 xs9) (V := fun v => ∃ i, i < 2 ∧ v = uniF i) (s := 2) (g := pol 7 [1, 0, 1]) (by decide) (pol_low _) (by decide) (fun v ⟨i, hi, e⟩ => by
      subst e
      refine Kil.congr (u := atV (unitL 2 i)) (pdoL_kil.1 ?_) unitL_at.symm
      have : i = 0 ∨ i = 1 := by omega
      rcases this with rfl | rfl
      · decide
      · decide) fun f hf hk => by
      have h0 := (hk _ ⟨0, by omega, rfl⟩).at_ hf
      have h1 := h0 0 (by omega)
      have h2 := h0 1 (by omega)
      simp [doF, sm, itF, mapF, atF, uniF, xs9] at h1 h2
      refine Ser.ext_ fun k => ?_
      rw [Ser.zero_co]
      have e0 := f.ok 0; have e1 := f.ok 1
      rcases Nat.lt_or_ge k 2 with c | c
      · have : k = 0 ∨ k = 1 := by omega
        rcases this with rfl | rfl
        · omega
        · omega
      · exact hf k c
  exact h
theorem own9 : OwnL 7 2 xs9 [0, 0] [1] := by
  have h := IsOwn.of (p := 7) (n := 2) (A := atF 2 xs9) (V := fun v => v = atV [0, 0]) (s := 0) (g := pol 7 [1]) (by decide) (pol_low _) (by decide) (fun v e => by
      subst e
      exact pdoL_kil.1 (by decide)) fun f hf _ => hf.zero
  exact h
end Go.Proofs.YtijpeepdedfhoaaGreat
