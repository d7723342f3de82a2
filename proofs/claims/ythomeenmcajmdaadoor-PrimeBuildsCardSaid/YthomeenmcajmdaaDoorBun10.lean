/- What the texts Pdq9, PdqA show, in one text. -/
import Derived.Test.YthomeenmcajmdaaDoorBun09
import Derived.Deep.CutBlock
import Derived.BigQuiet
/- Sorting at uint64: pdqsortOrdered of fewer than fifty different numbers. -/
namespace Go.Proofs.YthomeenmcajmdaaDoor
open Go.RowKit Go.Maps

/-- what pdqsort leaves of a stretch -/
def Sorts (g : Nat) (t : TypeId) (rest : List Value) (a b n : Nat) (d : Array Int) (w : World) (e : Ending) (w' : World) : Prop :=
  (∃ v, e = .returned v) ∧ ∃ y, AB w' g t y rest ∧ y.size = n ∧ Go.Sort.PermIn a b d y ∧ Go.Sort.SortedIn Go.Sort.ltInt a b y ∧ w.grownBy w' (some g)
theorem pdIns_n (g cap : Nat) (t : TypeId) (d : Array Int) (rest : List Value) (a b n : Nat) (w : World) (hb : AB w g t d rest) (hn : d.size = n) (hab : a ≤ b) (hbd : b ≤ n) (hs : n ≤ 1000) :
    Calls Tryd.prog 40 #[.slice (some ⟨g, 0, none⟩) n cap, .int .i64 a, .int .i64 b] w (Sorts g t rest a b n d w) := by
  subst hn
  refine (pdIns g cap t d rest a b w hb hab hbd hs).mono ?_
  rintro _ w' ⟨⟨v, rfl⟩, h1, h2, h3⟩
  have h := Go.Sort.insertionSort_holds Go.Sort.swo_ltInt d a b hab hbd
  exact ⟨⟨_, rfl⟩, _, h1, h2, h.1, h.2, h3⟩
theorem pdHeap_n (g cap : Nat) (t : TypeId) (d : Array Int) (rest : List Value) (a b n : Nat) (w : World) (hb : AB w g t d rest) (hn : d.size = n) (hab : a < b) (hbd : b ≤ n) (hs : n ≤ 1000) :
    Calls Tryd.prog 41 #[.slice (some ⟨g, 0, none⟩) n cap, .int .i64 a, .int .i64 b] w (Sorts g t rest a b n d w) := by
  subst hn
  refine (pdHeap g cap t d rest a b w hb hab hbd hs).mono ?_
  rintro _ w' ⟨⟨v, rfl⟩, h1, h2, h3⟩
  have h := Go.Sort.heapSort_holds Go.Sort.swo_ltInt d a b (Nat.le_of_lt hab) hbd
  exact ⟨⟨_, rfl⟩, _, h1, h2, h.1, h.2, h3⟩
theorem pdBreak_n (g cap : Nat) (t : TypeId) (d : Array Int) (rest : List Value) (a b n : Nat) (w : World) (hb : AB w g t d rest) (hn : d.size = n) (hab : a + 8 ≤ b) (hbd : b ≤ n) (hs : n ≤ 1000) :
    Calls Tryd.prog 42 #[.slice (some ⟨g, 0, none⟩) n cap, .int .i64 a, .int .i64 b] w
      fun e w' => (∃ v, e = .returned v) ∧ ∃ y, AB w' g t y rest ∧ y.size = n ∧ Go.Sort.PermIn a b d y ∧ w.grownBy w' (some g) := by
  subst hn
  exact pdBreak g cap t d rest a b w hb hab hbd hs
theorem pdPivot_n (g cap : Nat) (t : TypeId) (d : Array Int) (rest : List Value) (a b n : Nat) (w : World) (hb : AB w g t d rest) (hn : d.size = n) (hab : a + 8 ≤ b) (hab2 : b < a + 50) (hbd : b ≤ n) (hs : n ≤ 1000) :
    Calls Tryd.prog 43 #[.slice (some ⟨g, 0, none⟩) n cap, .int .i64 a, .int .i64 b] w
      fun e w' => ∃ (p : Nat) (h : Int), e = .returned (.tuple #[.int .i64 p, .int .i64 h]) ∧ a ≤ p ∧ p < b ∧ (h = 0 ∨ h = 1) ∧ AB w' g t d rest ∧ w.grownBy w' (some g) := by
  subst hn
  refine (pdPivot g cap t d rest a b w hb hab hab2 hbd hs).mono ?_
  rintro _ w' ⟨p, h, rfl, h1, h2, h3, x⟩
  exact ⟨p, h, rfl, h1, h2, h3, hb.ext x, ext_grownBy x _⟩
theorem pdPartial_n (g cap : Nat) (t : TypeId) (d : Array Int) (rest : List Value) (a b n : Nat) (w : World) (hb : AB w g t d rest) (hn : d.size = n) (hab : a < b) (hab2 : b < a + 50) (hbd : b ≤ n) (hs : n ≤ 1000) :
    Calls Tryd.prog 45 #[.slice (some ⟨g, 0, none⟩) n cap, .int .i64 a, .int .i64 b] w
      fun e w' => ∃ r : Bool, e = .returned (.bool r) ∧ (r = true → Go.Sort.SortedIn Go.Sort.ltInt a b d) ∧ AB w' g t d rest ∧ w.grownBy w' (some g) := by
  subst hn
  refine (pdPartial g cap t d rest a b w hb hab hab2 hbd hs).mono ?_
  rintro _ w' ⟨r, rfl, h1, x⟩
  exact ⟨r, rfl, h1, hb.ext x, ext_grownBy x _⟩
theorem pdPart_n (g cap : Nat) (t : TypeId) (d : Array Int) (rest : List Value) (a b pivot n : Nat) (w : World) (hb : AB w g t d rest) (hn : d.size = n) (hap : a ≤ pivot) (hpb : pivot < b) (hbd : b ≤ n) (hab : a + 1 < b) (hs : n ≤ 1000) (hd : DistIn a b d) :
    Calls Tryd.prog 48 #[.slice (some ⟨g, 0, none⟩) n cap, .int .i64 a, .int .i64 b, .int .i64 pivot] w
      fun e w' => ∃ (mid : Nat) (q : Bool) (y : Array Int), e = .returned (.tuple #[.int .i64 mid, .bool q]) ∧ a ≤ mid ∧ mid < b ∧ AB w' g t y rest ∧ y.size = n ∧ Go.Sort.PermIn a b d y ∧ (∀ i, a ≤ i → i < mid → y[i]! < y[mid]!) ∧ (∀ i, mid < i → i < b → y[mid]! < y[i]!) ∧ w.grownBy w' (some g) := by
  subst hn
  refine (pdPart g cap t d rest a b pivot w hb hap hpb hbd hab hs).mono ?_
  rintro _ w' ⟨rfl, h1, h2, h3⟩
  obtain ⟨m1, m2, m3, m4, m5⟩ := part_dist hd hap hpb hbd rfl rfl
  exact ⟨_, _, _, rfl, m1, m2, h1, h2, m3, m4, m5, h3⟩

set_option maxRecDepth 100000 in
set_option maxHeartbeats 8000000 in
theorem pdPdq (g cap n : Nat) (t : TypeId) (rest : List Value) : ∀ (M : Nat) (d : Array Int) (a b limit : Nat) (w : World), b - a < M → AB w g t d rest → d.size = n → a ≤ b → b ≤ n → n < 50 → limit ≤ 64 → DistIn a b d → Under a b d →
    Calls Tryd.prog 35 #[.slice (some ⟨g, 0, none⟩) n cap, .int .i64 a, .int .i64 b, .int .i64 limit] w (Sorts g t rest a b n d w) := by
  intro M
  induction M with
  | zero => intro d a b limit w hM; omega
  | succ M ih =>
  intro d a b limit w hM hb hn hab hbd hs hl hdist hund
  have IH := hid fun (d : Array Int) (a b limit : Nat) (w : World) (h1 : b - a < M) (h2 : AB w g t d rest) (h3 : d.size = n) (h4 : a ≤ b) (h5 : b ≤ n) (h6 : limit ≤ 64) (h7 : DistIn a b d) (h8 : Under a b d) => ih d a b limit w h1 h2 h3 h4 h5 hs h6 h7 h8
  have HN := hid hn
  have HB := hid hb
  have HD := hid hdist; have HU := hid hund
  have HR := hid (show Rest a b a b d from fun z _ h => h)
  have HP := hid (Go.Sort.permIn_refl d a b)
  clear ih hn hb hdist hund
  go_enter Tryd.func35, Tryd.ntmps35
  go_wp2_with fail
  go_loopw [1, 2, 3, 8, 9] (fun av bv lv wb wp wr => ∃ (a' b' l' : Nat) (B P : Bool) (y : Array Int), av = .int .i64 a' ∧ bv = .int .i64 b' ∧ lv = .int .i64 l' ∧ wb = .bool B ∧ wp = .bool P ∧ a ≤ a' ∧ a' ≤ b' ∧ b' ≤ b ∧ l' ≤ 64 ∧ Hid (AB wr g t y rest) ∧ Hid (y.size = n) ∧ Hid (Go.Sort.PermIn a b d y) ∧ Hid (DistIn a' b' y) ∧ Hid (Under a' b' y) ∧ Hid (Rest a b a' b' y) ∧ Hid (w.grownBy wr (some g))) (fun av bv _ _ _ _ => (intOf bv - intOf av).toNat)
  case atStart => exact ⟨a, b, limit, true, true, d, rfl, rfl, rfl, rfl, rfl, Nat.le_refl _, hab, Nat.le_refl _, hl, HB, HN, HP, HD, HU, HR, hid (World.grownBy.refl w _)⟩
  case round =>
    clear HB HN HP HD HU HR hl
    obtain ⟨a', b', l', B, P, y, rfl, rfl, rfl, rfl, rfl, ha1, ha2, hb1, hl, Hy, HN1, HP1, HD1, HU1, HR1, Hg⟩ := hrel
    rename World => wr
    obtain ⟨l, hll⟩ : ∃ x, b' - a' = x := ⟨_, rfl⟩
    have el : (b' : Int) - (a' : Int) = (l : Int) := by omega
    have hab' : b' ≤ a' + l ∧ a' + l ≤ b' := by omega
    clear hll
    by_cases hl12 : l ≤ 12
    · have d12 : decide ((l : Int) ≤ 12) = true := decide_eq_true (by omega)
      have d12' : decide (l ≤ 12) = true := decide_eq_true hl12
      go_wp2_with fail
      have hbn : b' ≤ n := by omega
      have hn1 : n ≤ 1000 := by omega
      have H := pdIns_n g cap t y rest a' b' n wr Hy.out HN1.out ha2 hbn hn1
      refine H.mono ?_
      rintro _ w5 ⟨⟨v5, rfl⟩, z, z1, z2, z3, z4, z5⟩
      have Z1 := hid z1; have Z2 := hid z2; have Z3 := hid z3; have Z4 := hid z4; have Z5 := hid z5
      clear z1 z2 z3 z4 z5
      go_wp2_with fail
      (try simp only [Exit.inBlock, Exit.then])
      refine bodyPost_ret (results_none rfl _ _ _) rfl ?_
      exact ⟨⟨_, rfl⟩, z, Z1.out, Z2.out, Go.Sort.permIn_trans d y z a b HP1.out (Go.Sort.permIn_mono y z a' b' a b (by omega) (by omega) (by rw [HN1.out]; omega) Z3.out), HR1.out z Z3.out Z4.out, Hg.out.trans Z5.out⟩
    · have d12 : decide ((l : Int) ≤ 12) = false := decide_eq_false (by omega)
      have d12' : decide (l ≤ 12) = false := decide_eq_false hl12
      by_cases hl0 : l' = 0
      · have dl0 : ((l' : Int) == 0) = true := by simp; omega
        have dl0' : (l' == 0) = true := by simp; omega
        go_wp2_with fail
        refine (pdHeap_n g cap t y rest a' b' n wr Hy.out HN1.out (by omega) (by omega) (by omega)).mono ?_
        rintro _ w5 ⟨⟨v5, rfl⟩, z, z1, z2, z3, z4, z5⟩
        have Z1 := hid z1; have Z2 := hid z2; have Z3 := hid z3; have Z4 := hid z4; have Z5 := hid z5
        clear z1 z2 z3 z4 z5
        go_wp2_with fail
        (try simp only [Exit.inBlock, Exit.then])
        refine bodyPost_ret (results_none rfl _ _ _) rfl ?_
        exact ⟨⟨_, rfl⟩, z, Z1.out, Z2.out, Go.Sort.permIn_trans d y z a b HP1.out (Go.Sort.permIn_mono y z a' b' a b (by omega) (by omega) (by rw [HN1.out]; omega) Z3.out), HR1.out z Z3.out Z4.out, Hg.out.trans Z5.out⟩
      · have dl0 : ((l' : Int) == 0) = false := by simp; omega
        have dl0' : (l' == 0) = false := by simp; omega
        obtain ⟨q8, hq8⟩ : ∃ x, l / 8 = x := ⟨_, rfl⟩
        have eq8 : (l : Int).tdiv 8 = (q8 : Int) := by rw [Int.tdiv_eq_ediv_of_nonneg (by omega)]; omega
        clear hq8
        cases B with
        | false =>
          go_wp2_with fail
          refine (pdBreak_n g cap t y rest a' b' n wr Hy.out HN1.out (by omega) (by omega) (by omega)).mono ?_
          rintro _ w2 ⟨⟨v2, rfl⟩, y1, z1, z2, z3, z5⟩
          have hbs : b' ≤ y.size := by rw [HN1.out]; omega
          have Y := hid z1; have YN := hid z2
          have YP := hid (Go.Sort.permIn_trans d y y1 a b HP1.out (Go.Sort.permIn_mono y y1 a' b' a b (by omega) (by omega) (by rw [HN1.out]; omega) z3))
          have YD := hid (HD1.out.perm hbs z3)
          have YU := hid (HU1.out.perm hbs z3)
          have YR := hid (HR1.out.perm z3)
          have YG := hid (Hg.out.trans z5)
          clear z1 z2 z3 z5 Hy HN1 HP1 HD1 HU1 HR1 Hg
          have Hy := Y; have HN1 := YN; have HP1 := YP; have HD1 := YD; have HU1 := YU; have HR1 := YR
          clear Y YN YP YD YU YR
          obtain ⟨l1, hl1⟩ : ∃ x, l' - 1 = x := ⟨_, rfl⟩
          have el1 : (l' : Int) - 1 = (l1 : Int) := by omega
          have wl1 : IntKind.i64.wrap (l1 : Int) = (l1 : Int) := IntWalk.i64_in _ (by omega)
          have hl1b : l1 ≤ 64 := by omega
          clear hl1
          go_wp2_with fail
          refine (pdPivot_n g cap t y1 rest a' b' n w2 Hy.out HN1.out (by omega) (by omega) (by omega) (by omega)).mono ?_
          rintro _ w3 ⟨p, h, rfl, hp1, hp2, hh, z1, z5⟩
          have Hg := hid (YG.out.trans z5)
          clear Hy YG z5
          have Hy := hid z1
          clear z1
          have dh2 : (h == 2) = false := by simp; omega
          by_cases ha0 : ¬ 0 < a'
          · have da : decide ((0 : Int) < (a' : Int)) = false := decide_eq_false (by omega)
            have da' : decide (0 < a') = false := decide_eq_false (by omega)
            go_wp2_with fail
            go_quiet (fail)
            go_wp2_with fail
            refine (pdPart_n g cap t y1 rest a' b' p n _ (Hy.out.drewN _) HN1.out hp1 hp2 (by omega) (by omega) (by omega) HD1.out).mono ?_
            rintro _ w4 ⟨mid, q, yp, rfl, m1, m2, m3, m4, m5, m6, m7, m8⟩
            have M3 := hid m3; have M4 := hid m4; have M5 := hid m5; have M6 := hid m6; have M7 := hid m7
            have M8 := hid ((drewN_grown Hg.out _).trans m8)
            have HD2 := hid (HD1.out.perm (by rw [HN1.out]; omega) m5)
            have HU2 := hid (HU1.out.perm (by rw [HN1.out]; omega) m5)
            clear m3 m4 m5 m6 m7 m8 Hy Hg
            obtain ⟨lL, hlL⟩ : ∃ x, mid - a' = x := ⟨_, rfl⟩
            have elL : (mid : Int) - (a' : Int) = (lL : Int) := by omega
            obtain ⟨lR, hlR⟩ : ∃ x, b' - mid = x := ⟨_, rfl⟩
            have elR : (b' : Int) - (mid : Int) = (lR : Int) := by omega
            obtain ⟨mm, hmm⟩ : ∃ x, mid + 1 = x := ⟨_, rfl⟩
            have emm : (mid : Int) + 1 = (mm : Int) := by omega
            have wmm : IntKind.i64.wrap (mm : Int) = (mm : Int) := IntWalk.i64_in _ (by omega)
            have HMM := hid hmm
            have hsum : (lL + lR ≤ l ∧ l ≤ lL + lR) ∧ (mid ≤ a' + lL ∧ a' + lL ≤ mid) ∧ (b' ≤ mid + lR ∧ mid + lR ≤ b') ∧ (mm ≤ mid + 1 ∧ mid + 1 ≤ mm) := by omega
            clear hlL hlR hmm
            by_cases hlr : lL < lR
            · have dlr : decide ((lL : Int) < (lR : Int)) = true := decide_eq_true (by omega)
              have dlr' : decide (lL < lR) = true := decide_eq_true hlr
              go_wp2_with fail
              refine (IH.out yp a' mid l1 w4 (by omega) M3.out M4.out (by omega) (by omega) (by omega) (HD2.out.part (Nat.le_refl _) (by omega)) (HU2.out.part (by omega))).mono ?_
              rintro _ w5 ⟨⟨v5, rfl⟩, z, z1, z2, z3, z4, z5⟩
              have Z := HR1.out.right m1 m2 (by rw [HN1.out]; omega) M5.out M6.out M7.out z3 z4
              rw [HMM.out] at Z
              have Z1 := hid z1; have Z2 := hid z2; have Z3 := hid Z.1; have Z4 := hid Z.2.1; have Z6 := hid Z.2.2
              have Z5 := hid (M8.out.trans z5)
              have Z7 := hid (Go.Sort.permIn_trans d y1 z a b HP1.out (Go.Sort.permIn_mono y1 z a' b' a b (by omega) (by omega) (by rw [HN1.out]; omega) Z.2.2))
              have Z8 := hid ((HD1.out.perm (by rw [HN1.out]; omega) Z.2.2).part (a' := mm) (b' := b') (by omega) (Nat.le_refl _))
              clear z1 z2 z3 z4 z5 Z M3 M4 M5 M6 M7 M8 HD2 HU2
              go_wp2_with fail
              go_roundw
              case rel => exact ⟨mm, b', l1, _, q, z, rfl, rfl, rfl, rfl, rfl, by omega, by omega, by omega, by omega, Z1, Z2, Z7, Z8, Z4, Z3, Z5⟩
              case measure => simp [intOf]; omega
            · have dlr : decide ((lL : Int) < (lR : Int)) = false := decide_eq_false (by omega)
              have dlr' : decide (lL < lR) = false := decide_eq_false hlr
              have HUr := hid (show Under mm b' yp from .inr fun i h3 h4 => by
                rw [show mm - 1 = mid by omega]
                exact M7.out i (by omega) h4)
              go_wp2_with fail
              refine (IH.out yp mm b' l1 w4 (by omega) M3.out M4.out (by omega) (by omega) (by omega) (HD2.out.part (by omega) (Nat.le_refl _)) HUr.out).mono ?_
              rintro _ w5 ⟨⟨v5, rfl⟩, z, z1, z2, z3, z4, z5⟩
              rw [← HMM.out] at z3 z4
              have Z := HR1.out.left m1 m2 (by rw [HN1.out]; omega) M5.out M6.out M7.out z3 z4
              have Z1 := hid z1; have Z2 := hid z2; have Z3 := hid Z.1
              have Z5 := hid (M8.out.trans z5)
              have Z7 := hid (Go.Sort.permIn_trans d y1 z a b HP1.out (Go.Sort.permIn_mono y1 z a' b' a b (by omega) (by omega) (by rw [HN1.out]; omega) Z.2))
              have Z8 := hid ((HD1.out.perm (by rw [HN1.out]; omega) Z.2).part (a' := a') (b' := mid) (Nat.le_refl _) (by omega))
              have Z4 := hid ((HU1.out.perm (by rw [HN1.out]; omega) Z.2).part (b' := mid) (by omega))
              clear z1 z2 z3 z4 z5 Z M3 M4 M5 M6 M7 M8 HD2 HU2 HUr
              go_wp2_with fail
              go_roundw
              case rel => exact ⟨a', mid, l1, _, q, z, rfl, rfl, rfl, rfl, rfl, by omega, by omega, by omega, by omega, Z1, Z2, Z7, Z8, Z4, Z3, Z5⟩
              case measure => simp [intOf]; omega
          · have da : decide ((0 : Int) < (a' : Int)) = true := decide_eq_true (by omega)
            have da' : decide (0 < a') = true := decide_eq_true (by omega)
            obtain ⟨m, hm⟩ : ∃ m, a' = m + 1 := ⟨a' - 1, by omega⟩
            have em : (a' : Int) - 1 = (m : Int) := by omega
            have wm : IntKind.i64.wrap (m : Int) = (m : Int) := IntWalk.i64_in _ (by omega)
            have bm : (m : Int) < (n : Int) := by omega
            have cm := Hy.out.cell (k := m) (by rw [HN1.out]; omega)
            have cp := Hy.out.cell (k := p) (by rw [HN1.out]; omega)
            obtain ⟨xm, exm⟩ : ∃ x, y1[m]! = x := ⟨_, rfl⟩
            obtain ⟨xp, exp⟩ : ∃ x, y1[p]! = x := ⟨_, rfl⟩
            have dx : decide (xm < xp) = true := decide_eq_true (by
              rcases HU1.out with h | h
              · omega
              · have := h p hp1 hp2
                rw [show a' - 1 = m by omega, exm, exp] at this
                exact this)
            rw [exm] at cm; rw [exp] at cp
            clear exm exp hm
            go_wp2_with fail
            go_quiet ((go_at_call 46; first | exact quiet_l (less64_any _ _ _) | exact quiet_add_l (less64_any _ _ _)))
            go_wp2_with fail
            clear cm cp
            refine (pdPart_n g cap t y1 rest a' b' p n _ (Hy.out.drewN _) HN1.out hp1 hp2 (by omega) (by omega) (by omega) HD1.out).mono ?_
            rintro _ w4 ⟨mid, q, yp, rfl, m1, m2, m3, m4, m5, m6, m7, m8⟩
            have M3 := hid m3; have M4 := hid m4; have M5 := hid m5; have M6 := hid m6; have M7 := hid m7
            have M8 := hid ((drewN_grown Hg.out _).trans m8)
            have HD2 := hid (HD1.out.perm (by rw [HN1.out]; omega) m5)
            have HU2 := hid (HU1.out.perm (by rw [HN1.out]; omega) m5)
            clear m3 m4 m5 m6 m7 m8 Hy Hg
            obtain ⟨lL, hlL⟩ : ∃ x, mid - a' = x := ⟨_, rfl⟩
            have elL : (mid : Int) - (a' : Int) = (lL : Int) := by omega
            obtain ⟨lR, hlR⟩ : ∃ x, b' - mid = x := ⟨_, rfl⟩
            have elR : (b' : Int) - (mid : Int) = (lR : Int) := by omega
            obtain ⟨mm, hmm⟩ : ∃ x, mid + 1 = x := ⟨_, rfl⟩
            have emm : (mid : Int) + 1 = (mm : Int) := by omega
            have wmm : IntKind.i64.wrap (mm : Int) = (mm : Int) := IntWalk.i64_in _ (by omega)
            have HMM := hid hmm
            have hsum : (lL + lR ≤ l ∧ l ≤ lL + lR) ∧ (mid ≤ a' + lL ∧ a' + lL ≤ mid) ∧ (b' ≤ mid + lR ∧ mid + lR ≤ b') ∧ (mm ≤ mid + 1 ∧ mid + 1 ≤ mm) := by omega
            clear hlL hlR hmm
            by_cases hlr : lL < lR
            · have dlr : decide ((lL : Int) < (lR : Int)) = true := decide_eq_true (by omega)
              have dlr' : decide (lL < lR) = true := decide_eq_true hlr
              go_wp2_with fail
              refine (IH.out yp a' mid l1 w4 (by omega) M3.out M4.out (by omega) (by omega) (by omega) (HD2.out.part (Nat.le_refl _) (by omega)) (HU2.out.part (by omega))).mono ?_
              rintro _ w5 ⟨⟨v5, rfl⟩, z, z1, z2, z3, z4, z5⟩
              have Z := HR1.out.right m1 m2 (by rw [HN1.out]; omega) M5.out M6.out M7.out z3 z4
              rw [HMM.out] at Z
              have Z1 := hid z1; have Z2 := hid z2; have Z3 := hid Z.1; have Z4 := hid Z.2.1; have Z6 := hid Z.2.2
              have Z5 := hid (M8.out.trans z5)
              have Z7 := hid (Go.Sort.permIn_trans d y1 z a b HP1.out (Go.Sort.permIn_mono y1 z a' b' a b (by omega) (by omega) (by rw [HN1.out]; omega) Z.2.2))
              have Z8 := hid ((HD1.out.perm (by rw [HN1.out]; omega) Z.2.2).part (a' := mm) (b' := b') (by omega) (Nat.le_refl _))
              clear z1 z2 z3 z4 z5 Z M3 M4 M5 M6 M7 M8 HD2 HU2
              go_wp2_with fail
              go_roundw
              case rel => exact ⟨mm, b', l1, _, q, z, rfl, rfl, rfl, rfl, rfl, by omega, by omega, by omega, by omega, Z1, Z2, Z7, Z8, Z4, Z3, Z5⟩
              case measure => simp [intOf]; omega
            · have dlr : decide ((lL : Int) < (lR : Int)) = false := decide_eq_false (by omega)
              have dlr' : decide (lL < lR) = false := decide_eq_false hlr
              have HUr := hid (show Under mm b' yp from .inr fun i h3 h4 => by
                rw [show mm - 1 = mid by omega]
                exact M7.out i (by omega) h4)
              go_wp2_with fail
              refine (IH.out yp mm b' l1 w4 (by omega) M3.out M4.out (by omega) (by omega) (by omega) (HD2.out.part (by omega) (Nat.le_refl _)) HUr.out).mono ?_
              rintro _ w5 ⟨⟨v5, rfl⟩, z, z1, z2, z3, z4, z5⟩
              rw [← HMM.out] at z3 z4
              have Z := HR1.out.left m1 m2 (by rw [HN1.out]; omega) M5.out M6.out M7.out z3 z4
              have Z1 := hid z1; have Z2 := hid z2; have Z3 := hid Z.1
              have Z5 := hid (M8.out.trans z5)
              have Z7 := hid (Go.Sort.permIn_trans d y1 z a b HP1.out (Go.Sort.permIn_mono y1 z a' b' a b (by omega) (by omega) (by rw [HN1.out]; omega) Z.2))
              have Z8 := hid ((HD1.out.perm (by rw [HN1.out]; omega) Z.2).part (a' := a') (b' := mid) (Nat.le_refl _) (by omega))
              have Z4 := hid ((HU1.out.perm (by rw [HN1.out]; omega) Z.2).part (b' := mid) (by omega))
              clear z1 z2 z3 z4 z5 Z M3 M4 M5 M6 M7 M8 HD2 HU2 HUr
              go_wp2_with fail
              go_roundw
              case rel => exact ⟨a', mid, l1, _, q, z, rfl, rfl, rfl, rfl, rfl, by omega, by omega, by omega, by omega, Z1, Z2, Z7, Z8, Z4, Z3, Z5⟩
              case measure => simp [intOf]; omega
        | true =>
          obtain ⟨y1, rfl⟩ : ∃ y1, y1 = y := ⟨_, rfl⟩
          go_wp2_with fail
          refine (pdPivot_n g cap t y1 rest a' b' n wr Hy.out HN1.out (by omega) (by omega) (by omega) (by omega)).mono ?_
          rintro _ w3 ⟨p, h, rfl, hp1, hp2, hh, z1, z5⟩
          have YG := hid (Hg.out.trans z5)
          clear Hy Hg z5
          have Hy := hid z1
          have Hg := hid YG.out
          clear z1 YG
          cases P with
          | false =>
            have dh2 : (h == 2) = false := by simp; omega
            by_cases ha0 : ¬ 0 < a'
            · have da : decide ((0 : Int) < (a' : Int)) = false := decide_eq_false (by omega)
              have da' : decide (0 < a') = false := decide_eq_false (by omega)
              go_wp2_with fail
              go_quiet (fail)
              go_wp2_with fail
              refine (pdPart_n g cap t y1 rest a' b' p n _ (Hy.out.drewN _) HN1.out hp1 hp2 (by omega) (by omega) (by omega) HD1.out).mono ?_
              rintro _ w4 ⟨mid, q, yp, rfl, m1, m2, m3, m4, m5, m6, m7, m8⟩
              have M3 := hid m3; have M4 := hid m4; have M5 := hid m5; have M6 := hid m6; have M7 := hid m7
              have M8 := hid ((drewN_grown Hg.out _).trans m8)
              have HD2 := hid (HD1.out.perm (by rw [HN1.out]; omega) m5)
              have HU2 := hid (HU1.out.perm (by rw [HN1.out]; omega) m5)
              clear m3 m4 m5 m6 m7 m8 Hy Hg
              obtain ⟨lL, hlL⟩ : ∃ x, mid - a' = x := ⟨_, rfl⟩
              have elL : (mid : Int) - (a' : Int) = (lL : Int) := by omega
              obtain ⟨lR, hlR⟩ : ∃ x, b' - mid = x := ⟨_, rfl⟩
              have elR : (b' : Int) - (mid : Int) = (lR : Int) := by omega
              obtain ⟨mm, hmm⟩ : ∃ x, mid + 1 = x := ⟨_, rfl⟩
              have emm : (mid : Int) + 1 = (mm : Int) := by omega
              have wmm : IntKind.i64.wrap (mm : Int) = (mm : Int) := IntWalk.i64_in _ (by omega)
              have HMM := hid hmm
              have hsum : (lL + lR ≤ l ∧ l ≤ lL + lR) ∧ (mid ≤ a' + lL ∧ a' + lL ≤ mid) ∧ (b' ≤ mid + lR ∧ mid + lR ≤ b') ∧ (mm ≤ mid + 1 ∧ mid + 1 ≤ mm) := by omega
              clear hlL hlR hmm
              by_cases hlr : lL < lR
              · have dlr : decide ((lL : Int) < (lR : Int)) = true := decide_eq_true (by omega)
                have dlr' : decide (lL < lR) = true := decide_eq_true hlr
                go_wp2_with fail
                refine (IH.out yp a' mid l' w4 (by omega) M3.out M4.out (by omega) (by omega) (by omega) (HD2.out.part (Nat.le_refl _) (by omega)) (HU2.out.part (by omega))).mono ?_
                rintro _ w5 ⟨⟨v5, rfl⟩, z, z1, z2, z3, z4, z5⟩
                have Z := HR1.out.right m1 m2 (by rw [HN1.out]; omega) M5.out M6.out M7.out z3 z4
                rw [HMM.out] at Z
                have Z1 := hid z1; have Z2 := hid z2; have Z3 := hid Z.1; have Z4 := hid Z.2.1; have Z6 := hid Z.2.2
                have Z5 := hid (M8.out.trans z5)
                have Z7 := hid (Go.Sort.permIn_trans d y1 z a b HP1.out (Go.Sort.permIn_mono y1 z a' b' a b (by omega) (by omega) (by rw [HN1.out]; omega) Z.2.2))
                have Z8 := hid ((HD1.out.perm (by rw [HN1.out]; omega) Z.2.2).part (a' := mm) (b' := b') (by omega) (Nat.le_refl _))
                clear z1 z2 z3 z4 z5 Z M3 M4 M5 M6 M7 M8 HD2 HU2
                go_wp2_with fail
                go_roundw
                case rel => exact ⟨mm, b', l', _, q, z, rfl, rfl, rfl, rfl, rfl, by omega, by omega, by omega, by omega, Z1, Z2, Z7, Z8, Z4, Z3, Z5⟩
                case measure => simp [intOf]; omega
              · have dlr : decide ((lL : Int) < (lR : Int)) = false := decide_eq_false (by omega)
                have dlr' : decide (lL < lR) = false := decide_eq_false hlr
                have HUr := hid (show Under mm b' yp from .inr fun i h3 h4 => by
                  rw [show mm - 1 = mid by omega]
                  exact M7.out i (by omega) h4)
                go_wp2_with fail
                refine (IH.out yp mm b' l' w4 (by omega) M3.out M4.out (by omega) (by omega) (by omega) (HD2.out.part (by omega) (Nat.le_refl _)) HUr.out).mono ?_
                rintro _ w5 ⟨⟨v5, rfl⟩, z, z1, z2, z3, z4, z5⟩
                rw [← HMM.out] at z3 z4
                have Z := HR1.out.left m1 m2 (by rw [HN1.out]; omega) M5.out M6.out M7.out z3 z4
                have Z1 := hid z1; have Z2 := hid z2; have Z3 := hid Z.1
                have Z5 := hid (M8.out.trans z5)
                have Z7 := hid (Go.Sort.permIn_trans d y1 z a b HP1.out (Go.Sort.permIn_mono y1 z a' b' a b (by omega) (by omega) (by rw [HN1.out]; omega) Z.2))
                have Z8 := hid ((HD1.out.perm (by rw [HN1.out]; omega) Z.2).part (a' := a') (b' := mid) (Nat.le_refl _) (by omega))
                have Z4 := hid ((HU1.out.perm (by rw [HN1.out]; omega) Z.2).part (b' := mid) (by omega))
                clear z1 z2 z3 z4 z5 Z M3 M4 M5 M6 M7 M8 HD2 HU2 HUr
                go_wp2_with fail
                go_roundw
                case rel => exact ⟨a', mid, l', _, q, z, rfl, rfl, rfl, rfl, rfl, by omega, by omega, by omega, by omega, Z1, Z2, Z7, Z8, Z4, Z3, Z5⟩
                case measure => simp [intOf]; omega
            · have da : decide ((0 : Int) < (a' : Int)) = true := decide_eq_true (by omega)
              have da' : decide (0 < a') = true := decide_eq_true (by omega)
              obtain ⟨m, hm⟩ : ∃ m, a' = m + 1 := ⟨a' - 1, by omega⟩
              have em : (a' : Int) - 1 = (m : Int) := by omega
              have wm : IntKind.i64.wrap (m : Int) = (m : Int) := IntWalk.i64_in _ (by omega)
              have bm : (m : Int) < (n : Int) := by omega
              have cm := Hy.out.cell (k := m) (by rw [HN1.out]; omega)
              have cp := Hy.out.cell (k := p) (by rw [HN1.out]; omega)
              obtain ⟨xm, exm⟩ : ∃ x, y1[m]! = x := ⟨_, rfl⟩
              obtain ⟨xp, exp⟩ : ∃ x, y1[p]! = x := ⟨_, rfl⟩
              have dx : decide (xm < xp) = true := decide_eq_true (by
                rcases HU1.out with h | h
                · omega
                · have := h p hp1 hp2
                  rw [show a' - 1 = m by omega, exm, exp] at this
                  exact this)
              rw [exm] at cm; rw [exp] at cp
              clear exm exp hm
              go_wp2_with fail
              go_quiet ((go_at_call 46; first | exact quiet_l (less64_any _ _ _) | exact quiet_add_l (less64_any _ _ _)))
              go_wp2_with fail
              clear cm cp
              refine (pdPart_n g cap t y1 rest a' b' p n _ (Hy.out.drewN _) HN1.out hp1 hp2 (by omega) (by omega) (by omega) HD1.out).mono ?_
              rintro _ w4 ⟨mid, q, yp, rfl, m1, m2, m3, m4, m5, m6, m7, m8⟩
              have M3 := hid m3; have M4 := hid m4; have M5 := hid m5; have M6 := hid m6; have M7 := hid m7
              have M8 := hid ((drewN_grown Hg.out _).trans m8)
              have HD2 := hid (HD1.out.perm (by rw [HN1.out]; omega) m5)
              have HU2 := hid (HU1.out.perm (by rw [HN1.out]; omega) m5)
              clear m3 m4 m5 m6 m7 m8 Hy Hg
              obtain ⟨lL, hlL⟩ : ∃ x, mid - a' = x := ⟨_, rfl⟩
              have elL : (mid : Int) - (a' : Int) = (lL : Int) := by omega
              obtain ⟨lR, hlR⟩ : ∃ x, b' - mid = x := ⟨_, rfl⟩
              have elR : (b' : Int) - (mid : Int) = (lR : Int) := by omega
              obtain ⟨mm, hmm⟩ : ∃ x, mid + 1 = x := ⟨_, rfl⟩
              have emm : (mid : Int) + 1 = (mm : Int) := by omega
              have wmm : IntKind.i64.wrap (mm : Int) = (mm : Int) := IntWalk.i64_in _ (by omega)
              have HMM := hid hmm
              have hsum : (lL + lR ≤ l ∧ l ≤ lL + lR) ∧ (mid ≤ a' + lL ∧ a' + lL ≤ mid) ∧ (b' ≤ mid + lR ∧ mid + lR ≤ b') ∧ (mm ≤ mid + 1 ∧ mid + 1 ≤ mm) := by omega
              clear hlL hlR hmm
              by_cases hlr : lL < lR
              · have dlr : decide ((lL : Int) < (lR : Int)) = true := decide_eq_true (by omega)
                have dlr' : decide (lL < lR) = true := decide_eq_true hlr
                go_wp2_with fail
                refine (IH.out yp a' mid l' w4 (by omega) M3.out M4.out (by omega) (by omega) (by omega) (HD2.out.part (Nat.le_refl _) (by omega)) (HU2.out.part (by omega))).mono ?_
                rintro _ w5 ⟨⟨v5, rfl⟩, z, z1, z2, z3, z4, z5⟩
                have Z := HR1.out.right m1 m2 (by rw [HN1.out]; omega) M5.out M6.out M7.out z3 z4
                rw [HMM.out] at Z
                have Z1 := hid z1; have Z2 := hid z2; have Z3 := hid Z.1; have Z4 := hid Z.2.1; have Z6 := hid Z.2.2
                have Z5 := hid (M8.out.trans z5)
                have Z7 := hid (Go.Sort.permIn_trans d y1 z a b HP1.out (Go.Sort.permIn_mono y1 z a' b' a b (by omega) (by omega) (by rw [HN1.out]; omega) Z.2.2))
                have Z8 := hid ((HD1.out.perm (by rw [HN1.out]; omega) Z.2.2).part (a' := mm) (b' := b') (by omega) (Nat.le_refl _))
                clear z1 z2 z3 z4 z5 Z M3 M4 M5 M6 M7 M8 HD2 HU2
                go_wp2_with fail
                go_roundw
                case rel => exact ⟨mm, b', l', _, q, z, rfl, rfl, rfl, rfl, rfl, by omega, by omega, by omega, by omega, Z1, Z2, Z7, Z8, Z4, Z3, Z5⟩
                case measure => simp [intOf]; omega
              · have dlr : decide ((lL : Int) < (lR : Int)) = false := decide_eq_false (by omega)
                have dlr' : decide (lL < lR) = false := decide_eq_false hlr
                have HUr := hid (show Under mm b' yp from .inr fun i h3 h4 => by
                  rw [show mm - 1 = mid by omega]
                  exact M7.out i (by omega) h4)
                go_wp2_with fail
                refine (IH.out yp mm b' l' w4 (by omega) M3.out M4.out (by omega) (by omega) (by omega) (HD2.out.part (by omega) (Nat.le_refl _)) HUr.out).mono ?_
                rintro _ w5 ⟨⟨v5, rfl⟩, z, z1, z2, z3, z4, z5⟩
                rw [← HMM.out] at z3 z4
                have Z := HR1.out.left m1 m2 (by rw [HN1.out]; omega) M5.out M6.out M7.out z3 z4
                have Z1 := hid z1; have Z2 := hid z2; have Z3 := hid Z.1
                have Z5 := hid (M8.out.trans z5)
                have Z7 := hid (Go.Sort.permIn_trans d y1 z a b HP1.out (Go.Sort.permIn_mono y1 z a' b' a b (by omega) (by omega) (by rw [HN1.out]; omega) Z.2))
                have Z8 := hid ((HD1.out.perm (by rw [HN1.out]; omega) Z.2).part (a' := a') (b' := mid) (Nat.le_refl _) (by omega))
                have Z4 := hid ((HU1.out.perm (by rw [HN1.out]; omega) Z.2).part (b' := mid) (by omega))
                clear z1 z2 z3 z4 z5 Z M3 M4 M5 M6 M7 M8 HD2 HU2 HUr
                go_wp2_with fail
                go_roundw
                case rel => exact ⟨a', mid, l', _, q, z, rfl, rfl, rfl, rfl, rfl, by omega, by omega, by omega, by omega, Z1, Z2, Z7, Z8, Z4, Z3, Z5⟩
                case measure => simp [intOf]; omega
          | true =>
            rcases hh with rfl | rfl
            · skip
              by_cases ha0 : ¬ 0 < a'
              · have da : decide ((0 : Int) < (a' : Int)) = false := decide_eq_false (by omega)
                have da' : decide (0 < a') = false := decide_eq_false (by omega)
                go_wp2_with fail
                go_quiet (fail)
                go_wp2_with fail
                refine (pdPart_n g cap t y1 rest a' b' p n _ (Hy.out.drewN _) HN1.out hp1 hp2 (by omega) (by omega) (by omega) HD1.out).mono ?_
                rintro _ w4 ⟨mid, q, yp, rfl, m1, m2, m3, m4, m5, m6, m7, m8⟩
                have M3 := hid m3; have M4 := hid m4; have M5 := hid m5; have M6 := hid m6; have M7 := hid m7
                have M8 := hid ((drewN_grown Hg.out _).trans m8)
                have HD2 := hid (HD1.out.perm (by rw [HN1.out]; omega) m5)
                have HU2 := hid (HU1.out.perm (by rw [HN1.out]; omega) m5)
                clear m3 m4 m5 m6 m7 m8 Hy Hg
                obtain ⟨lL, hlL⟩ : ∃ x, mid - a' = x := ⟨_, rfl⟩
                have elL : (mid : Int) - (a' : Int) = (lL : Int) := by omega
                obtain ⟨lR, hlR⟩ : ∃ x, b' - mid = x := ⟨_, rfl⟩
                have elR : (b' : Int) - (mid : Int) = (lR : Int) := by omega
                obtain ⟨mm, hmm⟩ : ∃ x, mid + 1 = x := ⟨_, rfl⟩
                have emm : (mid : Int) + 1 = (mm : Int) := by omega
                have wmm : IntKind.i64.wrap (mm : Int) = (mm : Int) := IntWalk.i64_in _ (by omega)
                have HMM := hid hmm
                have hsum : (lL + lR ≤ l ∧ l ≤ lL + lR) ∧ (mid ≤ a' + lL ∧ a' + lL ≤ mid) ∧ (b' ≤ mid + lR ∧ mid + lR ≤ b') ∧ (mm ≤ mid + 1 ∧ mid + 1 ≤ mm) := by omega
                clear hlL hlR hmm
                by_cases hlr : lL < lR
                · have dlr : decide ((lL : Int) < (lR : Int)) = true := decide_eq_true (by omega)
                  have dlr' : decide (lL < lR) = true := decide_eq_true hlr
                  go_wp2_with fail
                  refine (IH.out yp a' mid l' w4 (by omega) M3.out M4.out (by omega) (by omega) (by omega) (HD2.out.part (Nat.le_refl _) (by omega)) (HU2.out.part (by omega))).mono ?_
                  rintro _ w5 ⟨⟨v5, rfl⟩, z, z1, z2, z3, z4, z5⟩
                  have Z := HR1.out.right m1 m2 (by rw [HN1.out]; omega) M5.out M6.out M7.out z3 z4
                  rw [HMM.out] at Z
                  have Z1 := hid z1; have Z2 := hid z2; have Z3 := hid Z.1; have Z4 := hid Z.2.1; have Z6 := hid Z.2.2
                  have Z5 := hid (M8.out.trans z5)
                  have Z7 := hid (Go.Sort.permIn_trans d y1 z a b HP1.out (Go.Sort.permIn_mono y1 z a' b' a b (by omega) (by omega) (by rw [HN1.out]; omega) Z.2.2))
                  have Z8 := hid ((HD1.out.perm (by rw [HN1.out]; omega) Z.2.2).part (a' := mm) (b' := b') (by omega) (Nat.le_refl _))
                  clear z1 z2 z3 z4 z5 Z M3 M4 M5 M6 M7 M8 HD2 HU2
                  go_wp2_with fail
                  go_roundw
                  case rel => exact ⟨mm, b', l', _, q, z, rfl, rfl, rfl, rfl, rfl, by omega, by omega, by omega, by omega, Z1, Z2, Z7, Z8, Z4, Z3, Z5⟩
                  case measure => simp [intOf]; omega
                · have dlr : decide ((lL : Int) < (lR : Int)) = false := decide_eq_false (by omega)
                  have dlr' : decide (lL < lR) = false := decide_eq_false hlr
                  have HUr := hid (show Under mm b' yp from .inr fun i h3 h4 => by
                    rw [show mm - 1 = mid by omega]
                    exact M7.out i (by omega) h4)
                  go_wp2_with fail
                  refine (IH.out yp mm b' l' w4 (by omega) M3.out M4.out (by omega) (by omega) (by omega) (HD2.out.part (by omega) (Nat.le_refl _)) HUr.out).mono ?_
                  rintro _ w5 ⟨⟨v5, rfl⟩, z, z1, z2, z3, z4, z5⟩
                  rw [← HMM.out] at z3 z4
                  have Z := HR1.out.left m1 m2 (by rw [HN1.out]; omega) M5.out M6.out M7.out z3 z4
                  have Z1 := hid z1; have Z2 := hid z2; have Z3 := hid Z.1
                  have Z5 := hid (M8.out.trans z5)
                  have Z7 := hid (Go.Sort.permIn_trans d y1 z a b HP1.out (Go.Sort.permIn_mono y1 z a' b' a b (by omega) (by omega) (by rw [HN1.out]; omega) Z.2))
                  have Z8 := hid ((HD1.out.perm (by rw [HN1.out]; omega) Z.2).part (a' := a') (b' := mid) (Nat.le_refl _) (by omega))
                  have Z4 := hid ((HU1.out.perm (by rw [HN1.out]; omega) Z.2).part (b' := mid) (by omega))
                  clear z1 z2 z3 z4 z5 Z M3 M4 M5 M6 M7 M8 HD2 HU2 HUr
                  go_wp2_with fail
                  go_roundw
                  case rel => exact ⟨a', mid, l', _, q, z, rfl, rfl, rfl, rfl, rfl, by omega, by omega, by omega, by omega, Z1, Z2, Z7, Z8, Z4, Z3, Z5⟩
                  case measure => simp [intOf]; omega
              · have da : decide ((0 : Int) < (a' : Int)) = true := decide_eq_true (by omega)
                have da' : decide (0 < a') = true := decide_eq_true (by omega)
                obtain ⟨m, hm⟩ : ∃ m, a' = m + 1 := ⟨a' - 1, by omega⟩
                have em : (a' : Int) - 1 = (m : Int) := by omega
                have wm : IntKind.i64.wrap (m : Int) = (m : Int) := IntWalk.i64_in _ (by omega)
                have bm : (m : Int) < (n : Int) := by omega
                have cm := Hy.out.cell (k := m) (by rw [HN1.out]; omega)
                have cp := Hy.out.cell (k := p) (by rw [HN1.out]; omega)
                obtain ⟨xm, exm⟩ : ∃ x, y1[m]! = x := ⟨_, rfl⟩
                obtain ⟨xp, exp⟩ : ∃ x, y1[p]! = x := ⟨_, rfl⟩
                have dx : decide (xm < xp) = true := decide_eq_true (by
                  rcases HU1.out with h | h
                  · omega
                  · have := h p hp1 hp2
                    rw [show a' - 1 = m by omega, exm, exp] at this
                    exact this)
                rw [exm] at cm; rw [exp] at cp
                clear exm exp hm
                go_wp2_with fail
                go_quiet ((go_at_call 46; first | exact quiet_l (less64_any _ _ _) | exact quiet_add_l (less64_any _ _ _)))
                go_wp2_with fail
                clear cm cp
                refine (pdPart_n g cap t y1 rest a' b' p n _ (Hy.out.drewN _) HN1.out hp1 hp2 (by omega) (by omega) (by omega) HD1.out).mono ?_
                rintro _ w4 ⟨mid, q, yp, rfl, m1, m2, m3, m4, m5, m6, m7, m8⟩
                have M3 := hid m3; have M4 := hid m4; have M5 := hid m5; have M6 := hid m6; have M7 := hid m7
                have M8 := hid ((drewN_grown Hg.out _).trans m8)
                have HD2 := hid (HD1.out.perm (by rw [HN1.out]; omega) m5)
                have HU2 := hid (HU1.out.perm (by rw [HN1.out]; omega) m5)
                clear m3 m4 m5 m6 m7 m8 Hy Hg
                obtain ⟨lL, hlL⟩ : ∃ x, mid - a' = x := ⟨_, rfl⟩
                have elL : (mid : Int) - (a' : Int) = (lL : Int) := by omega
                obtain ⟨lR, hlR⟩ : ∃ x, b' - mid = x := ⟨_, rfl⟩
                have elR : (b' : Int) - (mid : Int) = (lR : Int) := by omega
                obtain ⟨mm, hmm⟩ : ∃ x, mid + 1 = x := ⟨_, rfl⟩
                have emm : (mid : Int) + 1 = (mm : Int) := by omega
                have wmm : IntKind.i64.wrap (mm : Int) = (mm : Int) := IntWalk.i64_in _ (by omega)
                have HMM := hid hmm
                have hsum : (lL + lR ≤ l ∧ l ≤ lL + lR) ∧ (mid ≤ a' + lL ∧ a' + lL ≤ mid) ∧ (b' ≤ mid + lR ∧ mid + lR ≤ b') ∧ (mm ≤ mid + 1 ∧ mid + 1 ≤ mm) := by omega
                clear hlL hlR hmm
                by_cases hlr : lL < lR
                · have dlr : decide ((lL : Int) < (lR : Int)) = true := decide_eq_true (by omega)
                  have dlr' : decide (lL < lR) = true := decide_eq_true hlr
                  go_wp2_with fail
                  refine (IH.out yp a' mid l' w4 (by omega) M3.out M4.out (by omega) (by omega) (by omega) (HD2.out.part (Nat.le_refl _) (by omega)) (HU2.out.part (by omega))).mono ?_
                  rintro _ w5 ⟨⟨v5, rfl⟩, z, z1, z2, z3, z4, z5⟩
                  have Z := HR1.out.right m1 m2 (by rw [HN1.out]; omega) M5.out M6.out M7.out z3 z4
                  rw [HMM.out] at Z
                  have Z1 := hid z1; have Z2 := hid z2; have Z3 := hid Z.1; have Z4 := hid Z.2.1; have Z6 := hid Z.2.2
                  have Z5 := hid (M8.out.trans z5)
                  have Z7 := hid (Go.Sort.permIn_trans d y1 z a b HP1.out (Go.Sort.permIn_mono y1 z a' b' a b (by omega) (by omega) (by rw [HN1.out]; omega) Z.2.2))
                  have Z8 := hid ((HD1.out.perm (by rw [HN1.out]; omega) Z.2.2).part (a' := mm) (b' := b') (by omega) (Nat.le_refl _))
                  clear z1 z2 z3 z4 z5 Z M3 M4 M5 M6 M7 M8 HD2 HU2
                  go_wp2_with fail
                  go_roundw
                  case rel => exact ⟨mm, b', l', _, q, z, rfl, rfl, rfl, rfl, rfl, by omega, by omega, by omega, by omega, Z1, Z2, Z7, Z8, Z4, Z3, Z5⟩
                  case measure => simp [intOf]; omega
                · have dlr : decide ((lL : Int) < (lR : Int)) = false := decide_eq_false (by omega)
                  have dlr' : decide (lL < lR) = false := decide_eq_false hlr
                  have HUr := hid (show Under mm b' yp from .inr fun i h3 h4 => by
                    rw [show mm - 1 = mid by omega]
                    exact M7.out i (by omega) h4)
                  go_wp2_with fail
                  refine (IH.out yp mm b' l' w4 (by omega) M3.out M4.out (by omega) (by omega) (by omega) (HD2.out.part (by omega) (Nat.le_refl _)) HUr.out).mono ?_
                  rintro _ w5 ⟨⟨v5, rfl⟩, z, z1, z2, z3, z4, z5⟩
                  rw [← HMM.out] at z3 z4
                  have Z := HR1.out.left m1 m2 (by rw [HN1.out]; omega) M5.out M6.out M7.out z3 z4
                  have Z1 := hid z1; have Z2 := hid z2; have Z3 := hid Z.1
                  have Z5 := hid (M8.out.trans z5)
                  have Z7 := hid (Go.Sort.permIn_trans d y1 z a b HP1.out (Go.Sort.permIn_mono y1 z a' b' a b (by omega) (by omega) (by rw [HN1.out]; omega) Z.2))
                  have Z8 := hid ((HD1.out.perm (by rw [HN1.out]; omega) Z.2).part (a' := a') (b' := mid) (Nat.le_refl _) (by omega))
                  have Z4 := hid ((HU1.out.perm (by rw [HN1.out]; omega) Z.2).part (b' := mid) (by omega))
                  clear z1 z2 z3 z4 z5 Z M3 M4 M5 M6 M7 M8 HD2 HU2 HUr
                  go_wp2_with fail
                  go_roundw
                  case rel => exact ⟨a', mid, l', _, q, z, rfl, rfl, rfl, rfl, rfl, by omega, by omega, by omega, by omega, Z1, Z2, Z7, Z8, Z4, Z3, Z5⟩
                  case measure => simp [intOf]; omega
            · go_wp2_with fail
              refine (pdPartial_n g cap t y1 rest a' b' n _ Hy.out HN1.out (by omega) (by omega) (by omega) (by omega)).mono ?_
              rintro _ w6 ⟨r, rfl, hr, z1, z5⟩
              have YG := hid (Hg.out.trans z5)
              clear Hy Hg z5
              have Hy := hid z1
              have Hg := hid YG.out
              clear z1 YG
              cases r with
              | true =>
                have Z4 := hid (hr rfl)
                clear hr
                go_wp2_with fail
                (try simp only [Exit.inBlock, Exit.then])
                refine bodyPost_ret (results_none rfl _ _ _) rfl ?_
                exact ⟨⟨_, rfl⟩, y1, Hy.out, HN1.out, HP1.out, HR1.out y1 (Go.Sort.permIn_refl _ _ _) Z4.out, Hg.out⟩
              | false =>
                clear hr
                by_cases ha0 : ¬ 0 < a'
                · have da : decide ((0 : Int) < (a' : Int)) = false := decide_eq_false (by omega)
                  have da' : decide (0 < a') = false := decide_eq_false (by omega)
                  go_wp2_with fail
                  go_quiet (fail)
                  go_wp2_with fail
                  refine (pdPart_n g cap t y1 rest a' b' p n _ (Hy.out.drewN _) HN1.out hp1 hp2 (by omega) (by omega) (by omega) HD1.out).mono ?_
                  rintro _ w4 ⟨mid, q, yp, rfl, m1, m2, m3, m4, m5, m6, m7, m8⟩
                  have M3 := hid m3; have M4 := hid m4; have M5 := hid m5; have M6 := hid m6; have M7 := hid m7
                  have M8 := hid ((drewN_grown Hg.out _).trans m8)
                  have HD2 := hid (HD1.out.perm (by rw [HN1.out]; omega) m5)
                  have HU2 := hid (HU1.out.perm (by rw [HN1.out]; omega) m5)
                  clear m3 m4 m5 m6 m7 m8 Hy Hg
                  obtain ⟨lL, hlL⟩ : ∃ x, mid - a' = x := ⟨_, rfl⟩
                  have elL : (mid : Int) - (a' : Int) = (lL : Int) := by omega
                  obtain ⟨lR, hlR⟩ : ∃ x, b' - mid = x := ⟨_, rfl⟩
                  have elR : (b' : Int) - (mid : Int) = (lR : Int) := by omega
                  obtain ⟨mm, hmm⟩ : ∃ x, mid + 1 = x := ⟨_, rfl⟩
                  have emm : (mid : Int) + 1 = (mm : Int) := by omega
                  have wmm : IntKind.i64.wrap (mm : Int) = (mm : Int) := IntWalk.i64_in _ (by omega)
                  have HMM := hid hmm
                  have hsum : (lL + lR ≤ l ∧ l ≤ lL + lR) ∧ (mid ≤ a' + lL ∧ a' + lL ≤ mid) ∧ (b' ≤ mid + lR ∧ mid + lR ≤ b') ∧ (mm ≤ mid + 1 ∧ mid + 1 ≤ mm) := by omega
                  clear hlL hlR hmm
                  by_cases hlr : lL < lR
                  · have dlr : decide ((lL : Int) < (lR : Int)) = true := decide_eq_true (by omega)
                    have dlr' : decide (lL < lR) = true := decide_eq_true hlr
                    go_wp2_with fail
                    refine (IH.out yp a' mid l' w4 (by omega) M3.out M4.out (by omega) (by omega) (by omega) (HD2.out.part (Nat.le_refl _) (by omega)) (HU2.out.part (by omega))).mono ?_
                    rintro _ w5 ⟨⟨v5, rfl⟩, z, z1, z2, z3, z4, z5⟩
                    have Z := HR1.out.right m1 m2 (by rw [HN1.out]; omega) M5.out M6.out M7.out z3 z4
                    rw [HMM.out] at Z
                    have Z1 := hid z1; have Z2 := hid z2; have Z3 := hid Z.1; have Z4 := hid Z.2.1; have Z6 := hid Z.2.2
                    have Z5 := hid (M8.out.trans z5)
                    have Z7 := hid (Go.Sort.permIn_trans d y1 z a b HP1.out (Go.Sort.permIn_mono y1 z a' b' a b (by omega) (by omega) (by rw [HN1.out]; omega) Z.2.2))
                    have Z8 := hid ((HD1.out.perm (by rw [HN1.out]; omega) Z.2.2).part (a' := mm) (b' := b') (by omega) (Nat.le_refl _))
                    clear z1 z2 z3 z4 z5 Z M3 M4 M5 M6 M7 M8 HD2 HU2
                    go_wp2_with fail
                    go_roundw
                    case rel => exact ⟨mm, b', l', _, q, z, rfl, rfl, rfl, rfl, rfl, by omega, by omega, by omega, by omega, Z1, Z2, Z7, Z8, Z4, Z3, Z5⟩
                    case measure => simp [intOf]; omega
                  · have dlr : decide ((lL : Int) < (lR : Int)) = false := decide_eq_false (by omega)
                    have dlr' : decide (lL < lR) = false := decide_eq_false hlr
                    have HUr := hid (show Under mm b' yp from .inr fun i h3 h4 => by
                      rw [show mm - 1 = mid by omega]
                      exact M7.out i (by omega) h4)
                    go_wp2_with fail
                    refine (IH.out yp mm b' l' w4 (by omega) M3.out M4.out (by omega) (by omega) (by omega) (HD2.out.part (by omega) (Nat.le_refl _)) HUr.out).mono ?_
                    rintro _ w5 ⟨⟨v5, rfl⟩, z, z1, z2, z3, z4, z5⟩
                    rw [← HMM.out] at z3 z4
                    have Z := HR1.out.left m1 m2 (by rw [HN1.out]; omega) M5.out M6.out M7.out z3 z4
                    have Z1 := hid z1; have Z2 := hid z2; have Z3 := hid Z.1
                    have Z5 := hid (M8.out.trans z5)
                    have Z7 := hid (Go.Sort.permIn_trans d y1 z a b HP1.out (Go.Sort.permIn_mono y1 z a' b' a b (by omega) (by omega) (by rw [HN1.out]; omega) Z.2))
                    have Z8 := hid ((HD1.out.perm (by rw [HN1.out]; omega) Z.2).part (a' := a') (b' := mid) (Nat.le_refl _) (by omega))
                    have Z4 := hid ((HU1.out.perm (by rw [HN1.out]; omega) Z.2).part (b' := mid) (by omega))
                    clear z1 z2 z3 z4 z5 Z M3 M4 M5 M6 M7 M8 HD2 HU2 HUr
                    go_wp2_with fail
                    go_roundw
                    case rel => exact ⟨a', mid, l', _, q, z, rfl, rfl, rfl, rfl, rfl, by omega, by omega, by omega, by omega, Z1, Z2, Z7, Z8, Z4, Z3, Z5⟩
                    case measure => simp [intOf]; omega
                · have da : decide ((0 : Int) < (a' : Int)) = true := decide_eq_true (by omega)
                  have da' : decide (0 < a') = true := decide_eq_true (by omega)
                  obtain ⟨m, hm⟩ : ∃ m, a' = m + 1 := ⟨a' - 1, by omega⟩
                  have em : (a' : Int) - 1 = (m : Int) := by omega
                  have wm : IntKind.i64.wrap (m : Int) = (m : Int) := IntWalk.i64_in _ (by omega)
                  have bm : (m : Int) < (n : Int) := by omega
                  have cm := Hy.out.cell (k := m) (by rw [HN1.out]; omega)
                  have cp := Hy.out.cell (k := p) (by rw [HN1.out]; omega)
                  obtain ⟨xm, exm⟩ : ∃ x, y1[m]! = x := ⟨_, rfl⟩
                  obtain ⟨xp, exp⟩ : ∃ x, y1[p]! = x := ⟨_, rfl⟩
                  have dx : decide (xm < xp) = true := decide_eq_true (by
                    rcases HU1.out with h | h
                    · omega
                    · have := h p hp1 hp2
                      rw [show a' - 1 = m by omega, exm, exp] at this
                      exact this)
                  rw [exm] at cm; rw [exp] at cp
                  clear exm exp hm
                  go_wp2_with fail
                  go_quiet ((go_at_call 46; first | exact quiet_l (less64_any _ _ _) | exact quiet_add_l (less64_any _ _ _)))
                  go_wp2_with fail
                  clear cm cp
                  refine (pdPart_n g cap t y1 rest a' b' p n _ (Hy.out.drewN _) HN1.out hp1 hp2 (by omega) (by omega) (by omega) HD1.out).mono ?_
                  rintro _ w4 ⟨mid, q, yp, rfl, m1, m2, m3, m4, m5, m6, m7, m8⟩
                  have M3 := hid m3; have M4 := hid m4; have M5 := hid m5; have M6 := hid m6; have M7 := hid m7
                  have M8 := hid ((drewN_grown Hg.out _).trans m8)
                  have HD2 := hid (HD1.out.perm (by rw [HN1.out]; omega) m5)
                  have HU2 := hid (HU1.out.perm (by rw [HN1.out]; omega) m5)
                  clear m3 m4 m5 m6 m7 m8 Hy Hg
                  obtain ⟨lL, hlL⟩ : ∃ x, mid - a' = x := ⟨_, rfl⟩
                  have elL : (mid : Int) - (a' : Int) = (lL : Int) := by omega
                  obtain ⟨lR, hlR⟩ : ∃ x, b' - mid = x := ⟨_, rfl⟩
                  have elR : (b' : Int) - (mid : Int) = (lR : Int) := by omega
                  obtain ⟨mm, hmm⟩ : ∃ x, mid + 1 = x := ⟨_, rfl⟩
                  have emm : (mid : Int) + 1 = (mm : Int) := by omega
                  have wmm : IntKind.i64.wrap (mm : Int) = (mm : Int) := IntWalk.i64_in _ (by omega)
                  have HMM := hid hmm
                  have hsum : (lL + lR ≤ l ∧ l ≤ lL + lR) ∧ (mid ≤ a' + lL ∧ a' + lL ≤ mid) ∧ (b' ≤ mid + lR ∧ mid + lR ≤ b') ∧ (mm ≤ mid + 1 ∧ mid + 1 ≤ mm) := by omega
                  clear hlL hlR hmm
                  by_cases hlr : lL < lR
                  · have dlr : decide ((lL : Int) < (lR : Int)) = true := decide_eq_true (by omega)
                    have dlr' : decide (lL < lR) = true := decide_eq_true hlr
                    go_wp2_with fail
                    refine (IH.out yp a' mid l' w4 (by omega) M3.out M4.out (by omega) (by omega) (by omega) (HD2.out.part (Nat.le_refl _) (by omega)) (HU2.out.part (by omega))).mono ?_
                    rintro _ w5 ⟨⟨v5, rfl⟩, z, z1, z2, z3, z4, z5⟩
                    have Z := HR1.out.right m1 m2 (by rw [HN1.out]; omega) M5.out M6.out M7.out z3 z4
                    rw [HMM.out] at Z
                    have Z1 := hid z1; have Z2 := hid z2; have Z3 := hid Z.1; have Z4 := hid Z.2.1; have Z6 := hid Z.2.2
                    have Z5 := hid (M8.out.trans z5)
                    have Z7 := hid (Go.Sort.permIn_trans d y1 z a b HP1.out (Go.Sort.permIn_mono y1 z a' b' a b (by omega) (by omega) (by rw [HN1.out]; omega) Z.2.2))
                    have Z8 := hid ((HD1.out.perm (by rw [HN1.out]; omega) Z.2.2).part (a' := mm) (b' := b') (by omega) (Nat.le_refl _))
                    clear z1 z2 z3 z4 z5 Z M3 M4 M5 M6 M7 M8 HD2 HU2
                    go_wp2_with fail
                    go_roundw
                    case rel => exact ⟨mm, b', l', _, q, z, rfl, rfl, rfl, rfl, rfl, by omega, by omega, by omega, by omega, Z1, Z2, Z7, Z8, Z4, Z3, Z5⟩
                    case measure => simp [intOf]; omega
                  · have dlr : decide ((lL : Int) < (lR : Int)) = false := decide_eq_false (by omega)
                    have dlr' : decide (lL < lR) = false := decide_eq_false hlr
                    have HUr := hid (show Under mm b' yp from .inr fun i h3 h4 => by
                      rw [show mm - 1 = mid by omega]
                      exact M7.out i (by omega) h4)
                    go_wp2_with fail
                    refine (IH.out yp mm b' l' w4 (by omega) M3.out M4.out (by omega) (by omega) (by omega) (HD2.out.part (by omega) (Nat.le_refl _)) HUr.out).mono ?_
                    rintro _ w5 ⟨⟨v5, rfl⟩, z, z1, z2, z3, z4, z5⟩
                    rw [← HMM.out] at z3 z4
                    have Z := HR1.out.left m1 m2 (by rw [HN1.out]; omega) M5.out M6.out M7.out z3 z4
                    have Z1 := hid z1; have Z2 := hid z2; have Z3 := hid Z.1
                    have Z5 := hid (M8.out.trans z5)
                    have Z7 := hid (Go.Sort.permIn_trans d y1 z a b HP1.out (Go.Sort.permIn_mono y1 z a' b' a b (by omega) (by omega) (by rw [HN1.out]; omega) Z.2))
                    have Z8 := hid ((HD1.out.perm (by rw [HN1.out]; omega) Z.2).part (a' := a') (b' := mid) (Nat.le_refl _) (by omega))
                    have Z4 := hid ((HU1.out.perm (by rw [HN1.out]; omega) Z.2).part (b' := mid) (by omega))
                    clear z1 z2 z3 z4 z5 Z M3 M4 M5 M6 M7 M8 HD2 HU2 HUr
                    go_wp2_with fail
                    go_roundw
                    case rel => exact ⟨a', mid, l', _, q, z, rfl, rfl, rfl, rfl, rfl, by omega, by omega, by omega, by omega, Z1, Z2, Z7, Z8, Z4, Z3, Z5⟩
                    case measure => simp [intOf]; omega
end Go.Proofs.YthomeenmcajmdaaDoor
/- Sorting at uint64: slices.Sort of fewer than fifty different numbers. -/
namespace Go.Proofs.YthomeenmcajmdaaDoor
open Go.RowKit

theorem NumBlk.ab {w : World} {g : Nat} {t : TypeId} {zs : List Int} {rest : List Value} (h : NumBlk w g t zs rest) : AB w g t zs.toArray rest := h
theorem AB.num {w : World} {g : Nat} {t : TypeId} {d : Array Int} {rest : List Value} (h : AB w g t d rest) : NumBlk w g t d.toList rest := h
set_option maxHeartbeats 400000 in
theorem sort_big (g cap : Nat) (t : TypeId) (xs : List Int) (rest : List Value) (w : World) (hb : NumBlk w g t xs rest) (hl : xs.length < 50) (hd : xs.Nodup) :
    Calls Tryd.prog 26 #[.slice (some ⟨g, 0, none⟩) xs.length cap] w
      fun e w' => (∃ v, e = .returned v) ∧ ∃ zs, NumBlk w' g t zs rest ∧ zs.Perm xs ∧ zs.Pairwise (· ≤ ·) ∧ w.grownBy w' (some g) := by
  have HB := hid hb.ab; clear hb
  obtain ⟨n, hn⟩ : ∃ n, xs.length = n := ⟨_, rfl⟩
  have hsz : xs.toArray.size = n := by simpa using hn
  have hdi : DistIn 0 n xs.toArray := (distIn_iff (by omega)).2 (by
    rw [← hsz]
    simpa using hd)
  have hbl : bitLen n ≤ 64 := by
    have := bitLen_le64 (n : Int) (by omega) (by omega)
    simpa using this
  have HN := hid hn
  rw [hn] at hl ⊢
  have H := hid (fun w' (h : AB w' g t xs.toArray rest) => pdPdq g cap n t rest (n + 1) xs.toArray 0 n (bitLen n) w' (by omega) h hsz (by omega) (Nat.le_refl _) hl hbl hdi (.inl rfl))
  clear hn hsz hdi
  go_enter Tryd.func26, Tryd.ntmps26
  go_wp2_with fail
  refine (bitsLen_any _ _ (by omega) (by omega)).mono ?_; rintro _ w1 ⟨rfl, rfl⟩
  go_wp2_with fail
  refine (H.out _ HB.out).mono ?_; rintro _ w1 ⟨⟨v, rfl⟩, y, h1, h2, h3, h4, h5⟩
  have H1 := hid h1; have H2 := hid h2; have H3 := hid h3; have H4 := hid h4; have H5 := hid h5
  clear h1 h2 h3 h4 h5
  go_wp2_with fail
  go_end0
  have hsx : xs.toArray.size = n := by simpa using HN.out
  refine ⟨⟨_, rfl⟩, y.toList, H1.out.num, ?_, ?_, H5.out⟩
  · have := H3.out.2.2
    rw [← hsx, show (xs.toArray.extract 0 xs.toArray.size) = xs.toArray by simp, show (y.extract 0 xs.toArray.size) = y by rw [hsx, ← H2.out]; simp] at this
    simpa using this
  · rw [List.pairwise_iff_getElem]
    intro i j hi hj hij
    have hj' : j < y.size := by simpa using hj
    have := lt_int_not.1 (H4.out i j (Nat.zero_le _) hij (by rw [← H2.out]; exact hj'))
    simpa [hj', show i < y.size by omega] using this
end Go.Proofs.YthomeenmcajmdaaDoor
