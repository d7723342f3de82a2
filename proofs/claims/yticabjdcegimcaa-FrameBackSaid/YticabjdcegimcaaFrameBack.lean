/- FrameBack: whatever the frames, the place and the byte, the law answers true, and nothing that was there has turned. No condition. -/
import Derived.Test.YticabjdcegimcaaFrameReads
namespace Go.Proofs.Yticabjdcegimcaa.frameBack
open Go.ChangeShapes Go.WideShapes Go.ChangeAt Go.RowKit Go.Maps

/-- two frames in boxes -/
theorem boxes_fg (w : World) (a b : Array Value) (t : TypeId) : Blk ((w.alloc (.cells a t)).alloc (.cells b t)) w.heap.size t a ∧ Blk ((w.alloc (.cells a t)).alloc (.cells b t)) (w.heap.size + 1) t b ∧ Ext w ((w.alloc (.cells a t)).alloc (.cells b t)) := by
  refine ⟨(Blk.new w t a).ext ((Ext.refl _).alloc _), ?_, ((Ext.refl w).alloc _).alloc _⟩
  have := Blk.new (w.alloc (.cells a t)) t b
  rwa [alloc_size] at this
set_option maxRecDepth 100000 in
set_option maxHeartbeats 2000000 in
theorem walk_skip (f g : Frm) (fu gu : Value) (at_ c : Int) (w : World) (hf : Ints .u64 w fu f.body) (hg : Ints .u64 w gu g.body) (hl : 300 < f.body.length ∨ 300 < g.body.length) :
    Calls Try.prog 4 #[frmV f fu, frmV g gu, .int .u16 at_, .int .u8 c] w (Ret (.bool true) w) := by
  obtain ⟨k, r, m, l⟩ := f
  obtain ⟨k', r', m', l'⟩ := g
  obtain ⟨a, cap, rfl, h1, h2⟩ := hf.shape
  obtain ⟨a', cap', rfl, h1', h2'⟩ := hg.shape
  clear hf hg
  have hl : 300 < l.length ∨ 300 < l'.length := hl
  have hB := hid (boxes_fg w #[.int .i64 k, .int .i64 r, .int .u32 m, .slice a l.length cap] #[.int .i64 k', .int .i64 r', .int .u32 m', .slice a' l'.length cap'] 25)
  show Calls _ _ #[.agg #[.int .i64 k, .int .i64 r, .int .u32 m, .slice a l.length cap], .agg #[.int .i64 k', .int .i64 r', .int .u32 m', .slice a' l'.length cap'], .int .u16 at_, .int .u8 c] w _
  by_cases g1 : 300 < l.length
  · clear hl
    go_enter Try.func4, Try.ntmps4
    go_wp2_with (go_at_call 7; refine (awake11 _).mono ?_; rintro _ w1 ⟨rfl, x1⟩; obtain ⟨-, -, -, f3⟩ := (hB.out.1.ext x1).at4; obtain ⟨-, -, -, g3⟩ := (hB.out.2.1.ext x1).at4)
    go_ret
    exact ⟨rfl, hB.out.2.2.trans x1⟩
  · have g2 : 300 < l'.length := by omega
    clear hl
    go_enter Try.func4, Try.ntmps4
    go_wp2_with (go_at_call 7; refine (awake11 _).mono ?_; rintro _ w1 ⟨rfl, x1⟩; obtain ⟨-, -, -, f3⟩ := (hB.out.1.ext x1).at4; obtain ⟨-, -, -, g3⟩ := (hB.out.2.1.ext x1).at4)
    go_ret
    exact ⟨rfl, hB.out.2.2.trans x1⟩
set_option maxRecDepth 100000 in
set_option maxHeartbeats 2000000 in
theorem walk_no (f g : Frm) (fu gu : Value) (at_ c : Int) (w : World) (okf : f.Ok) (okg : g.Ok) (hf : Ints .u64 w fu f.body) (hg : Ints .u64 w gu g.body) (hl : ¬ 300 < f.body.length) (hl' : ¬ 300 < g.body.length) (hno : ¬ (mayF f = true ∧ mayF g = true)) :
    Calls Try.prog 4 #[frmV f fu, frmV g gu, .int .u16 at_, .int .u8 c] w (Ret (.bool true) w) := by
  have CF := hid fun (W : World) (hW : Ext w W) => frPut f fu W okf (hf.ext hW)
  have CG := hid fun (W : World) (hW : Ext w W) => frPut g gu W okg (hg.ext hW)
  have MF := hid fun (W : World) (hW : Ext w W) => frMay f fu W (hf.ext hW)
  have MG := hid fun (W : World) (hW : Ext w W) => frMay g gu W (hg.ext hW)
  unfold RetPut putE at CF CG
  obtain ⟨BF, eBF⟩ : ∃ B, mayF f = B := ⟨_, rfl⟩
  obtain ⟨BG, eBG⟩ : ∃ B, mayF g = B := ⟨_, rfl⟩
  rw [eBF] at CF MF hno
  rw [eBG] at CG MG hno
  obtain ⟨a, cap, rfl, h1, h2⟩ := hf.shape
  obtain ⟨a', cap', rfl, h1', h2'⟩ := hg.shape
  obtain ⟨pf, epf⟩ : ∃ pf, putZ f = pf := ⟨_, rfl⟩
  obtain ⟨pg, epg⟩ : ∃ pg, putZ g = pg := ⟨_, rfl⟩
  rw [epf] at CF
  rw [epg] at CG
  clear eBF eBG epf epg okf okg hf hg
  obtain ⟨k, r, m, l⟩ := f
  obtain ⟨k', r', m', l'⟩ := g
  have hl : ¬ 300 < l.length := hl
  have hl' : ¬ 300 < l'.length := hl'
  have h1 : l.length ≤ cap := h1
  have h1' : l'.length ≤ cap' := h1'
  have hB := hid (boxes_fg w #[.int .i64 k, .int .i64 r, .int .u32 m, .slice a l.length cap] #[.int .i64 k', .int .i64 r', .int .u32 m', .slice a' l'.length cap'] 25)
  show Calls _ _ #[.agg #[.int .i64 k, .int .i64 r, .int .u32 m, .slice a l.length cap], .agg #[.int .i64 k', .int .i64 r', .int .u32 m', .slice a' l'.length cap'], .int .u16 at_, .int .u8 c] w _
  have CF : Hid (∀ W, Ext w W → Calls Try.prog 8 #[.agg #[.int .i64 k, .int .i64 r, .int .u32 m, .slice a l.length cap]] W fun e w' => ∃ v, e = .returned (.tuple #[v, .int .i64 (if BF = true then 0 else 1)]) ∧ w'.ownsRow W.heap.size 5 1 v pf.length (pf.map (Value.int .u8)) ∧ Ext W w') := CF
  have CG : Hid (∀ W, Ext w W → Calls Try.prog 8 #[.agg #[.int .i64 k', .int .i64 r', .int .u32 m', .slice a' l'.length cap']] W fun e w' => ∃ v, e = .returned (.tuple #[v, .int .i64 (if BG = true then 0 else 1)]) ∧ w'.ownsRow W.heap.size 5 1 v pg.length (pg.map (Value.int .u8)) ∧ Ext W w') := CG
  have MF : Hid (∀ W, Ext w W → Calls Try.prog 13 #[.agg #[.int .i64 k, .int .i64 r, .int .u32 m, .slice a l.length cap]] W (Ret (.bool BF) W)) := MF
  have MG : Hid (∀ W, Ext w W → Calls Try.prog 13 #[.agg #[.int .i64 k', .int .i64 r', .int .u32 m', .slice a' l'.length cap']] W (Ret (.bool BG) W)) := MG
  cases BF
  · obtain ⟨EG, eEG⟩ : ∃ E : Int, (if BG = true then (0 : Int) else 1) = E := ⟨_, rfl⟩
    rw [eEG] at CG
    clear eEG
    clear hno
    simp only [Bool.false_eq_true, if_false] at CF
    go_enter Try.func4, Try.ntmps4
    go_wp2_with (go_at_call 7; refine (awake11 _).mono ?_; rintro _ w1 ⟨rfl, x1⟩; obtain ⟨f0, f1, f2, f3⟩ := (hB.out.1.ext x1).at4; obtain ⟨g0, g1, g2, g3⟩ := (hB.out.2.1.ext x1).at4)
    clear f0 f1 f2 f3 g0 g1 g2 g3
    have z1 := hB.out.2.2.trans x1
    refine (CF.out _ z1).mono ?_
    rintro _ w2 ⟨v2, rfl, o2, x2⟩
    obtain ⟨a2, c2, e2, -, -⟩ := own_nums o2
    subst e2
    obtain ⟨g0, g1, g2, g3⟩ := (hB.out.2.1.ext (x1.trans x2)).at4
    clear o2
    go_wp2_with fail
    clear g0 g1 g2 g3
    refine (CG.out _ (z1.trans x2)).mono ?_
    rintro _ w3 ⟨v3, rfl, o3, x3⟩
    obtain ⟨a3, c3, e3, -, -⟩ := own_nums o3
    subst e3
    have z3 := z1.trans (x2.trans x3)
    obtain ⟨f0, f1, f2, f3⟩ := (hB.out.1.ext (x1.trans (x2.trans x3))).at4
    clear o3
    go_wp2_with fail
    refine (MF.out _ z3).mono ?_
    rintro _ w4 ⟨rfl, x4⟩
    go_wp2_with fail
    go_ret
    exact ⟨rfl, z3.trans x4⟩
  · cases BG
    · clear hno
      simp only [Bool.false_eq_true, if_false, if_true] at CF CG
      go_enter Try.func4, Try.ntmps4
      go_wp2_with (go_at_call 7; refine (awake11 _).mono ?_; rintro _ w1 ⟨rfl, x1⟩; obtain ⟨f0, f1, f2, f3⟩ := (hB.out.1.ext x1).at4; obtain ⟨g0, g1, g2, g3⟩ := (hB.out.2.1.ext x1).at4)
      clear f0 f1 f2 f3 g0 g1 g2 g3
      have z1 := hB.out.2.2.trans x1
      refine (CF.out _ z1).mono ?_
      rintro _ w2 ⟨v2, rfl, o2, x2⟩
      obtain ⟨a2, c2, e2, -, -⟩ := own_nums o2
      subst e2
      obtain ⟨g0, g1, g2, g3⟩ := (hB.out.2.1.ext (x1.trans x2)).at4
      clear o2
      go_wp2_with fail
      clear g0 g1 g2 g3
      refine (CG.out _ (z1.trans x2)).mono ?_
      rintro _ w3 ⟨v3, rfl, o3, x3⟩
      obtain ⟨a3, c3, e3, -, -⟩ := own_nums o3
      subst e3
      have z3 := z1.trans (x2.trans x3)
      obtain ⟨f0, f1, f2, f3⟩ := (hB.out.1.ext (x1.trans (x2.trans x3))).at4
      clear o3
      go_wp2_with fail
      refine (MF.out _ z3).mono ?_
      rintro _ w4 ⟨rfl, x4⟩
      obtain ⟨g0, g1, g2, g3⟩ := (hB.out.2.1.ext ((x1.trans (x2.trans x3)).trans x4)).at4
      go_wp2_with fail
      refine (MG.out _ (z3.trans x4)).mono ?_
      rintro _ w5 ⟨rfl, x5⟩
      go_wp2_with fail
      go_ret
      exact ⟨rfl, (z3.trans x4).trans x5⟩
    · exact absurd ⟨rfl, rfl⟩ hno
theorem own_at {w : World} {base n cap : Nat} {e : TypeId} {a : Option Addr} {xs : List Value} (h : w.ownsRow base e 1 (.slice a n cap) n xs) (hn : 0 < n) : ∃ g, a = some ⟨g, 0, none⟩ ∧ base ≤ g := by
  rcases h.2 with ⟨h', h0⟩ | ⟨g, cap', cur, h', hb, -⟩
  · injection h' with _ h' _; omega
  · injection h' with h' _ _
    exact ⟨g, h', hb⟩
theorem ints_from {k : IntKind} {w : World} {b off m cap : Nat} {xs ys : List Int} (h : Ints k w (.slice (some ⟨b, off, none⟩) m cap) (xs ++ ys)) (hc : xs.length + ys.length ≤ cap) (n : Nat) (hn : n = xs.length) (hp : 0 < ys.length) (q : Nat) (hq : q = m - n) : Ints k w (.slice (some ⟨b, off + n, none⟩) q (cap - n)) ys := by
  subst hn; subst hq
  obtain ⟨a', cap', e, -, h2, -⟩ := id h
  injection e with e1 e2 e3
  have hm : m = xs.length + ys.length := by rw [e2, List.length_append]
  have := h.cut xs.length ys.length (cap - xs.length) (by rw [List.length_append]; omega) (by omega) (by omega)
  have e : cutL (xs ++ ys) xs.length ys.length = ys := by unfold cutL; rw [List.drop_left, List.take_length]
  rw [e] at this
  rw [show m - xs.length = ys.length by omega]
  exact this
set_option maxRecDepth 100000 in
set_option maxHeartbeats 4000000 in
theorem walk_yes (f g : Frm) (fu gu : Value) (at_ c : Int) (w : World) (okf : f.Ok) (okg : g.Ok) (hf : Ints .u64 w fu f.body) (hg : Ints .u64 w gu g.body) (wa : 0 ≤ at_ ∧ at_ ≤ 65535) (wc : 0 ≤ c ∧ c < 256) (hl : ¬ 300 < f.body.length) (hl' : ¬ 300 < g.body.length) (mf : mayF f = true) (mg : mayF g = true) :
    Calls Try.prog 4 #[frmV f fu, frmV g gu, .int .u16 at_, .int .u8 c] w (Ret (.bool true) w) := by
  obtain ⟨i0, hi, hz0, hz1, hz2⟩ := info_parts info_u8p
  have CF := hid fun (W : World) (hW : Ext w W) => frPut f fu W okf (hf.ext hW)
  have CG := hid fun (W : World) (hW : Ext w W) => frPut g gu W okg (hg.ext hW)
  unfold RetPut at CF CG
  rw [(put_yes mf).1, (put_yes mf).2] at CF
  rw [(put_yes mg).1, (put_yes mg).2] at CG
  have hbB := putL_byt mf
  have hbD := putL_byt mg
  have hlB := putL_len f
  have hlD := putL_len g
  have hn := nx_put mf okf (putL g)
  have hrg := rd_put mg okg
  have hrb := rd_more mf okf (r := putL g) (by omega)
  have hset := fun P (h9 : 9 ≤ P) (hP : P < (putL f).length) (hne : (putL f).getD P 0 ≠ c) => next_set mf (fun _ => by omega) h9 hP wc hne
  have hbBD : Byt (putL f ++ putL g) := hbB.append hbD
  have CN := hid fun (W : World) (v : Value) (hv : Ints .u8 W v (putL f ++ putL g)) => frNext v _ W hv hbBD (by rw [List.length_append]; omega)
  unfold RetNx at CN
  rw [hn.1, hn.2.1, hn.2.2] at CN
  have CRg := hid fun (W : World) (v : Value) (hv : Ints .u8 W v (putL g)) => frRead v _ W hv hbD (by omega)
  unfold RetRd at CRg
  rw [hrg.1, hrg.2] at CRg
  have CRb := hid fun (W : World) (v : Value) (hv : Ints .u8 W v (putL f ++ putL g)) => frRead v _ W hv hbBD (by rw [List.length_append]; omega)
  unfold RetRd at CRb
  rw [hrb.1, hrb.2] at CRb
  have SFF := hid fun (W : World) (v u : Value) (hv : Ints .u64 W v f.body) (hu : Ints .u64 W u f.body) => r11Same f f v u W hv hu
  rw [decide_eq_true (rfl : f = f)] at SFF
  have SG := hid fun (W : World) (v u : Value) (hv : Ints .u64 W v g.body) (hu : Ints .u64 W u g.body) => r11Same g g v u W hv hu
  rw [decide_eq_true (rfl : g = g)] at SG
  have SFG := hid fun (W : World) (v u : Value) (hv : Ints .u64 W v f.body) (hu : Ints .u64 W u g.body) => r11Same f g v u W hv hu
  have heq : ((strOfNums (putL f)).toList == (strOfNums (putL g)).toList) = decide (f = g) := by
    rw [str_eq hbB hbD, Bool.eq_iff_iff]
    simp only [decide_eq_true_eq]
    exact ⟨put_inj mf okf mg okg, fun h => by rw [h]⟩
  obtain ⟨EQ, eEQ⟩ : ∃ B, decide (f = g) = B := ⟨_, rfl⟩
  rw [eEQ] at SFG heq
  have HEQ := hid heq
  have CZ := hid fun (W : World) (u : Value) (hu : Ints .u64 W u []) => r11Same Frm.zero Frm.zero u (.slice none 0 0) W hu Ints.nil
  rw [decide_eq_true (rfl : Frm.zero = Frm.zero)] at CZ
  obtain ⟨a, cap, rfl, h1, h2⟩ := hf.shape
  obtain ⟨a', cap', rfl, h1', h2'⟩ := hg.shape
  have IF := hid hf; have IG := hid hg
  clear okf okg hf hg hn hrg hrb hbBD heq eEQ mg
  obtain ⟨B, eB⟩ : ∃ B, putL f = B := ⟨_, rfl⟩
  obtain ⟨D, eD⟩ : ∃ D, putL g = D := ⟨_, rfl⟩
  obtain ⟨LB, eLB⟩ : ∃ L, B.length = L := ⟨_, rfl⟩
  obtain ⟨LD, eLD⟩ : ∃ L, D.length = L := ⟨_, rfl⟩
  rw [eB] at CF hbB hlB hset CN CRb HEQ
  rw [eD] at CG hbD hlD CN CRg CRb HEQ
  rw [eLB] at CF hlB hset
  rw [eLD] at CG hlD
  have hlB' : 12 + 8 * f.body.length = LB := hlB.symm
  rw [hlB'] at CN
  have CX := hid fun (P : Nat) (h9 : 9 ≤ P) (hP : P < LB) (hne : B.getD P 0 ≠ c) (W : World) (v : Value) (hv : Ints .u8 W v (B.set P c)) => frRead v _ W hv (fun x hx => by
    rcases List.mem_or_eq_of_mem_set hx with h | h
    · exact hbB x h
    · rw [h]; exact wc) (by rw [List.length_set]; omega)
  have CX : Hid (∀ (P : Nat), 9 ≤ P → P < LB → B.getD P 0 ≠ c → ∀ (W : World) (v : Value), Ints .u8 W v (B.set P c) → Calls Try.prog 12 #[v] W fun e w' => ∃ u, e = .returned (.tuple #[frmV Frm.zero u, .int .i64 4]) ∧ w'.ownsRow W.heap.size 48 1 u 0 [] ∧ Ext W w') := hid (fun P h9 hP hne W v hv => by
    have h := CX.out P h9 hP hne W v hv
    have he := hset P h9 hP hne
    obtain ⟨q1, q2⟩ := nx_no he (by omega)
    have r1 : rdE (B.set P c) = 4 := by unfold rdE; rw [he, if_neg (by omega)]
    have r2 : rdF (B.set P c) = Frm.zero := by unfold rdF; rw [he, if_neg (by omega), q1]
    unfold RetRd at h
    rw [r1, r2] at h
    exact h)
  have hLB := hid eLB; have hLD := hid eLD; have HbB := hid hbB
  clear eB eD eLB eLD hset hlB mf hbB hbD
  obtain ⟨k, r, m, l⟩ := f
  obtain ⟨k', r', m', l'⟩ := g
  have hl : ¬ 300 < l.length := hl
  have hl' : ¬ 300 < l'.length := hl'
  have h1 : l.length ≤ cap := h1
  have h1' : l'.length ≤ cap' := h1'
  replace hlB' : 12 + 8 * l.length = LB := hlB'
  replace hlD : LD = 12 + 8 * l'.length := hlD
  have hLBb : 12 ≤ LB ∧ LB ≤ 2412 ∧ 12 ≤ LD ∧ LD ≤ 2412 := by omega
  clear hlD hlB'
  have IF : Hid (Ints .u64 w (.slice a l.length cap) l) := IF
  have IG : Hid (Ints .u64 w (.slice a' l'.length cap') l') := IG
  have hB := hid (boxes_fg w #[.int .i64 k, .int .i64 r, .int .u32 m, .slice a l.length cap] #[.int .i64 k', .int .i64 r', .int .u32 m', .slice a' l'.length cap'] 25)
  show Calls _ _ #[.agg #[.int .i64 k, .int .i64 r, .int .u32 m, .slice a l.length cap], .agg #[.int .i64 k', .int .i64 r', .int .u32 m', .slice a' l'.length cap'], .int .u16 at_, .int .u8 c] w _
  have CF : Hid (∀ W, Ext w W → Calls Try.prog 8 #[.agg #[.int .i64 k, .int .i64 r, .int .u32 m, .slice a l.length cap]] W fun e w' => ∃ v, e = .returned (.tuple #[v, .int .i64 0]) ∧ w'.ownsRow W.heap.size 5 1 v LB (B.map (Value.int .u8)) ∧ Ext W w') := CF
  have CG : Hid (∀ W, Ext w W → Calls Try.prog 8 #[.agg #[.int .i64 k', .int .i64 r', .int .u32 m', .slice a' l'.length cap']] W fun e w' => ∃ v, e = .returned (.tuple #[v, .int .i64 0]) ∧ w'.ownsRow W.heap.size 5 1 v LD (D.map (Value.int .u8)) ∧ Ext W w') := CG
  have CN : Hid (∀ W v, Ints .u8 W v (B ++ D) → Calls Try.prog 10 #[v] W fun e w' => ∃ u, e = .returned (.tuple #[.agg #[.int .i64 k, .int .i64 r, .int .u32 m, u], .int .i64 LB, .int .i64 0]) ∧ w'.ownsRow W.heap.size 48 1 u l.length (l.map (Value.int .u64)) ∧ Ext W w') := CN
  have CRg : Hid (∀ W v, Ints .u8 W v D → Calls Try.prog 12 #[v] W fun e w' => ∃ u, e = .returned (.tuple #[.agg #[.int .i64 k', .int .i64 r', .int .u32 m', u], .int .i64 0]) ∧ w'.ownsRow W.heap.size 48 1 u l'.length (l'.map (Value.int .u64)) ∧ Ext W w') := CRg
  have CRb : Hid (∀ W v, Ints .u8 W v (B ++ D) → Calls Try.prog 12 #[v] W fun e w' => ∃ u, e = .returned (.tuple #[.agg #[.int .i64 0, .int .i64 0, .int .u32 0, u], .int .i64 2]) ∧ w'.ownsRow W.heap.size 48 1 u 0 [] ∧ Ext W w') := CRb
  have CX : Hid (∀ (P : Nat), 9 ≤ P → P < LB → B.getD P 0 ≠ c → ∀ (W : World) (v : Value), Ints .u8 W v (B.set P c) → Calls Try.prog 12 #[v] W fun e w' => ∃ u, e = .returned (.tuple #[.agg #[.int .i64 0, .int .i64 0, .int .u32 0, u], .int .i64 4]) ∧ w'.ownsRow W.heap.size 48 1 u 0 [] ∧ Ext W w') := CX
  have SFF : Hid (∀ W v u, Ints .u64 W v l → Ints .u64 W u l → Calls Try.prog 17 #[.agg #[.int .i64 k, .int .i64 r, .int .u32 m, v], .agg #[.int .i64 k, .int .i64 r, .int .u32 m, u]] W (Ret (.bool true) W)) := SFF
  have SG : Hid (∀ W v u, Ints .u64 W v l' → Ints .u64 W u l' → Calls Try.prog 17 #[.agg #[.int .i64 k', .int .i64 r', .int .u32 m', v], .agg #[.int .i64 k', .int .i64 r', .int .u32 m', u]] W (Ret (.bool true) W)) := SG
  have SFG : Hid (∀ W v u, Ints .u64 W v l → Ints .u64 W u l' → Calls Try.prog 17 #[.agg #[.int .i64 k, .int .i64 r, .int .u32 m, v], .agg #[.int .i64 k', .int .i64 r', .int .u32 m', u]] W (Ret (.bool EQ) W)) := SFG
  have CZ : Hid (∀ W u, Ints .u64 W u [] → Calls Try.prog 17 #[.agg #[.int .i64 0, .int .i64 0, .int .u32 0, u], .agg #[.int .i64 0, .int .i64 0, .int .u32 0, .slice none 0 0]] W (Ret (.bool true) W)) := CZ
  go_enter Try.func4, Try.ntmps4
  go_wp2_with (go_at_call 7; refine (awake11 _).mono ?_; rintro _ w1 ⟨rfl, x1⟩; obtain ⟨f0, f1, f2, f3⟩ := (hB.out.1.ext x1).at4; obtain ⟨g0, g1, g2, g3⟩ := (hB.out.2.1.ext x1).at4)
  clear f0 f1 f2 f3 g0 g1 g2 g3
  have z1 := hB.out.2.2.trans x1
  refine (CF.out _ z1).mono ?_
  rintro _ w2 ⟨v2, rfl, o2, x2⟩
  obtain ⟨a2, c2, e2, -, -⟩ := own_nums o2
  subst e2
  obtain ⟨g0, g1, g2, g3⟩ := (hB.out.2.1.ext (x1.trans x2)).at4
  have O2 := hid o2
  clear o2
  go_wp2_with fail
  clear g0 g1 g2 g3
  refine (CG.out _ (z1.trans x2)).mono ?_
  rintro _ w3 ⟨v3, rfl, o3, x3⟩
  obtain ⟨a3, c3, e3, -, -⟩ := own_nums o3
  subst e3
  have z3 := z1.trans (x2.trans x3)
  have O3 := hid o3
  have O23 := hid (ownsRow_ext O2.out x3)
  have HF3 := hid (hB.out.1.ext (x1.trans (x2.trans x3)))
  have HG3 := hid (hB.out.2.1.ext (x1.trans (x2.trans x3)))
  have hO0 := hid (World.ownsRow_lit (base := w3.heap.size) (e := 5) (size := 1) w3 #[] 0 (Nat.le_refl _) (by simp [maxLen]) rfl)
  clear o3 O2 hB
  go_wp2_with (first
    | (at_builtin; refine wpList_append_k .u8 rfl _ _ 26 rfl w3.heap.size 5 i0 (.int .u8 0) 1 Try.underlying26 hi hz0 hz1 hz2 rfl _ 0 _ rfl hO0.out _ B rfl (own_read (O23.out.alloc _)) (by rw [hLB.out]; simp only [maxLen]; omega) (by rw [hLB.out]; omega) (by simp) ?_
       intro v4 w4 hown4 hgrow4
       have x4 : Ext w3 w4 := ((Ext.refl w3).alloc _).grown hgrow4 (fun k e => by cases e; exact Nat.le_refl _)
       have O4 := hid (show w4.ownsRow w3.heap.size 5 1 v4 LB (B.map (Value.int .u8)) from by rw [hLB.out, Nat.zero_add] at hown4; exact hown4)
       obtain ⟨a4, c4, e4, -, -⟩ := own_nums O4.out
       subst e4
       have hs4 := x4.size
       clear hown4 hgrow4)
    | (at_builtin; refine wpList_append_k .u8 rfl _ _ 26 rfl w3.heap.size 5 i0 (.int .u8 0) 1 Try.underlying26 hi hz0 hz1 hz2 rfl _ LB _ rfl O4.out _ D rfl (own_read (ownsRow_ext O3.out x4)) (by rw [hLD.out]; simp only [maxLen]; omega) (by rw [hLD.out]; omega) hs4 ?_
       intro v5 w5 hown5 hgrow5
       have x5 : Ext w3 w5 := x4.grown hgrow5 (fun k e => (O4.out.lt k e).1)
       have O5 := hid (show w5.ownsRow w3.heap.size 5 1 v5 (LB + LD) ((B ++ D).map (Value.int .u8)) from by rw [hLD.out, ← List.map_append] at hown5; exact hown5)
       obtain ⟨a5, c5, e5, -, -⟩ := own_nums O5.out
       subst e5
       clear hown5 hgrow5)
    | fail)
  have I5 := hid (own_read O5.out)
  obtain ⟨b5, off5, ea5, -, hb5, -⟩ := I5.out.cell (by rw [List.length_append, hLB.out]; omega)
  have hcap5 : LB + LD ≤ c5 := by obtain ⟨_, c', e, q, -⟩ := I5.out.shape; injection e with _ _ e; rw [List.length_append, hLB.out, hLD.out] at q; omega
  subst ea5
  clear O4 hO0 hs4 x4
  refine (CN.out _ _ I5.out).mono ?_
  rintro _ w6 ⟨v6, rfl, o6, x6⟩
  obtain ⟨a6, c6, e6, -, -⟩ := own_nums o6
  subst e6
  obtain ⟨w7, hw7⟩ : ∃ w7, w6.alloc (.cells #[.int .i64 k, .int .i64 r, .int .u32 m, .slice a6 l.length c6] 25) = w7 := ⟨_, rfl⟩
  have x7 : Ext w6 w7 := hw7 ▸ (Ext.refl w6).alloc _
  have I67 := hid (own_read (ownsRow_ext o6 x7))
  have x57 := x6.trans x7
  have x37 := x5.trans x57
  have HF7 := hid (HF3.out.ext x37)
  obtain ⟨f0, f1, f2, f3⟩ := HF7.out.at4
  obtain ⟨k0, k1, k2, k3⟩ := (show Blk w7 w6.heap.size 25 #[.int .i64 k, .int .i64 r, .int .u32 m, .slice a6 l.length c6] from hw7 ▸ Blk.new w6 _ _).at4
  clear o6
  go_wp2_with fail
  clear f0 f1 f2 f3 k0 k1 k2 k3 hw7
  refine (SFF.out _ _ _ I67.out (IF.out.ext (z3.trans x37))).mono ?_
  rintro _ w8 ⟨rfl, x8⟩
  have I58 := hid (I5.out.ext (x57.trans x8))
  have I5D := hid (ints_from I58.out (by rw [hLB.out, hLD.out]; exact hcap5) LB hLB.out.symm (by rw [hLD.out]; omega) LD (by omega))
  have hLBc : LB ≤ c5 ∧ LB ≠ c5 := by omega
  go_wp2_with fail
  have x58 := x57.trans x8
  refine (CRg.out _ _ I5D.out).mono ?_
  rintro _ w9 ⟨v9, rfl, o9, x9⟩
  obtain ⟨ay, cy, e9, -, -⟩ := own_nums o9
  subst e9
  obtain ⟨w10, hw10⟩ : ∃ w10, w9.alloc (.cells #[.int .i64 k', .int .i64 r', .int .u32 m', .slice ay l'.length cy] 25) = w10 := ⟨_, rfl⟩
  have x10 : Ext w9 w10 := hw10 ▸ (Ext.refl w9).alloc _
  have HY10 := hid (show Blk w10 w9.heap.size 25 #[.int .i64 k', .int .i64 r', .int .u32 m', .slice ay l'.length cy] from hw10 ▸ Blk.new w9 _ _)
  have IY10 := hid (own_read (ownsRow_ext o9 x10))
  have x510 := x58.trans (x9.trans x10)
  have I510 := hid (I5.out.ext x510)
  clear o9 I58 I5D
  go_wp2_with fail
  clear hw10
  refine (CRb.out _ _ I510.out).mono ?_
  rintro _ w11 ⟨v11, rfl, o11, x11⟩
  obtain ⟨a11, c11, e11, -, -⟩ := own_nums (k := .u64) (xs := []) o11
  subst e11
  clear o11
  go_wp2_with fail
  obtain ⟨W, hW⟩ : ∃ W, w11.alloc (.cells #[.int .i64 0, .int .i64 0, .int .u32 0, .slice a11 0 c11] 25) = W := ⟨_, rfl⟩
  have xW : Ext w10 W := hW ▸ x11.alloc _
  rw [hW]
  clear hW
  have x3W := (x5.trans x510).trans xW
  have HYW := hid (HY10.out.ext xW)
  have HFW := hid (HF3.out.ext x3W)
  have HGW := hid (HG3.out.ext x3W)
  have IYW := hid (IY10.out.ext xW)
  have IFW := hid (IF.out.ext (z3.trans x3W))
  have IGW := hid (IG.out.ext (z3.trans x3W))
  have OBW := hid (ownsRow_ext O23.out x3W)
  have hSB := hid fun (w' : World) (h : Ext W w') => str_bytes ((own_read OBW.out).ext h)
  have hSD := hid fun (w' : World) (h : Ext W w') => str_bytes (((own_read O3.out).ext x3W).ext h)
  have zW := z3.trans x3W
  clear I510 HY10 HF3 HG3 IY10 O3 I5 I67 HF7
  go_cut [119] from 97 to 118 (fun c w' => c = .bool false ∧ Ext W w')
  case first =>
    refine region_ext W (by kernel_rfl) (by kernel_rfl) (Ext.refl _) ?_
    iterate 3
      refine wpQuiet_step (fun K hK => ?_)
      go_simp
      refine ⟨_, fun _ _ => rfl, hK _ ?_⟩
      clear hK K
    refine wpQuiet_step (fun K hK => ?_)
    go_simp
    refine ⟨(.agg #[.int .i64 k', .int .i64 r', .int .u32 m', .slice ay l'.length cy]), fun w' h => ?_, hK _ ?_⟩
    · obtain ⟨t0, t1, t2, t3⟩ := (HYW.out.ext h).at4
      simp [t0, t1, t2, t3, Result.andThen]
    clear hK K
    refine wpQuiet_step (fun K hK => ?_)
    go_simp
    refine ⟨(.agg #[.int .i64 k', .int .i64 r', .int .u32 m', .slice a' l'.length cap']), fun w' h => ?_, hK _ ?_⟩
    · obtain ⟨t0, t1, t2, t3⟩ := (HGW.out.ext h).at4
      simp [t0, t1, t2, t3, Result.andThen]
    clear hK K
    refine wpQuiet_step (fun K hK => ?_)
    go_simp
    refine ⟨(.bool true), fun w' h => ?_, hK _ ?_⟩
    · exact quiet_e h (SG.out _ _ _ (IYW.out.ext h) (IGW.out.ext h))
    clear hK K
    iterate 8
      refine wpQuiet_step (fun K hK => ?_)
      go_simp
      refine ⟨_, fun _ _ => rfl, hK _ ?_⟩
      clear hK K
    refine wpQuiet_step (fun K hK => ?_)
    go_simp
    refine ⟨(.string (strOfNums B)), fun w' h => ?_, hK _ ?_⟩
    · have t0 := hSB.out w' h
      simp [t0, Result.andThen]
    clear hK K
    iterate 1
      refine wpQuiet_step (fun K hK => ?_)
      go_simp
      refine ⟨_, fun _ _ => rfl, hK _ ?_⟩
      clear hK K
    refine wpQuiet_step (fun K hK => ?_)
    go_simp
    refine ⟨(.string (strOfNums D)), fun w' h => ?_, hK _ ?_⟩
    · have t0 := hSD.out w' h
      simp [t0, Result.andThen]
    clear hK K
    iterate 1
      refine wpQuiet_step (fun K hK => ?_)
      go_simp
      refine ⟨_, fun _ _ => rfl, hK _ ?_⟩
      clear hK K
    refine wpQuiet_step (fun K hK => ?_)
    go_simp
    refine ⟨(.agg #[.int .i64 k, .int .i64 r, .int .u32 m, .slice a l.length cap]), fun w' h => ?_, hK _ ?_⟩
    · obtain ⟨t0, t1, t2, t3⟩ := (HFW.out.ext h).at4
      simp [t0, t1, t2, t3, Result.andThen]
    clear hK K
    refine wpQuiet_step (fun K hK => ?_)
    go_simp
    refine ⟨(.agg #[.int .i64 k', .int .i64 r', .int .u32 m', .slice a' l'.length cap']), fun w' h => ?_, hK _ ?_⟩
    · obtain ⟨t0, t1, t2, t3⟩ := (HGW.out.ext h).at4
      simp [t0, t1, t2, t3, Result.andThen]
    clear hK K
    refine wpQuiet_step (fun K hK => ?_)
    go_simp
    refine ⟨(.bool EQ), fun w' h => ?_, hK _ ?_⟩
    · exact quiet_e h (SFG.out _ _ _ (IFW.out.ext h) (IGW.out.ext h))
    clear hK K
    iterate 2
      refine wpQuiet_step (fun K hK => ?_)
      go_simp
      refine ⟨_, fun _ _ => rfl, hK _ ?_⟩
      clear hK K
    refine wpQuiet_nil ?_
    intro w' hw'
    go_wp2_with fail
    go_meet
    exact ⟨by simp [HEQ.out], hw'⟩
  case rest =>
    obtain ⟨rfl, xc⟩ := hcut
    rename World => Wc
    have OBc := ownsRow_ext OBW.out xc
    obtain ⟨gb, egb, hgb⟩ := own_at OBc (by omega)
    subst egb
    obtain ⟨Q, hQ⟩ : ∃ Q : Nat, (LB : Int) - 9 = (Q : Int) ∧ 3 ≤ Q := ⟨LB - 9, by omega, by omega⟩
    obtain ⟨p, hp⟩ : ∃ p : Nat, at_ % (Q : Int) = p := ⟨(at_ % (Q : Int)).toNat, by have := Int.emod_nonneg at_ (show (Q : Int) ≠ 0 by omega); omega⟩
    have hpl : p < Q := by have := Int.emod_lt_of_pos at_ (show (0 : Int) < (Q : Int) by omega); omega
    have htm : at_.tmod (Q : Int) = (p : Int) := by rw [Int.tmod_eq_emod_of_nonneg wa.1]; exact hp
    obtain ⟨P, hP⟩ : ∃ P : Nat, (9 : Int) + (p : Int) = (P : Int) := ⟨9 + p, by omega⟩
    have hPr : 9 ≤ P ∧ P < LB := by omega
    have hq1 := hQ.1
    have hq2 : (Q : Int) ≠ 0 := by omega
    have hcl := OBc.cellAt P (by omega)
    rw [List.getElem?_map, List.getElem?_eq_getElem (by rw [hLB.out]; omega)] at hcl
    have hgy : B[P]'(by rw [hLB.out]; omega) = B.getD P 0 := by simp [List.getD, show P < B.length by rw [hLB.out]; omega]
    rw [hgy] at hcl
    have hfz := OBc.frozenAt P
    have CXP := hid fun hne => CX.out P hPr.1 hPr.2 hne
    have hst := OBc.stored P (.int .u8 c)
    have OS := hid (show (Wc.setCell ⟨gb, P, none⟩ (.int .u8 c)).ownsRow w1.heap.size 5 1 (.slice (some ⟨gb, 0, none⟩) LB c2) LB ((B.set P c).map (Value.int .u8)) from by rw [List.map_set]; exact hst.1)
    obtain ⟨y, ey⟩ : ∃ y, B.getD P 0 = y := ⟨_, rfl⟩
    rw [ey] at hcl CXP
    have zc := zW.trans xc
    have hgw : w.heap.size ≤ gb := Nat.le_trans z1.size hgb
    clear hQ hp ey hgy OBc hst OBW hSB hSD
    by_cases hyc : y = c
    · have b3 : (y == c) = true := by simp [hyc]
      clear hyc
      go_wp2_with fail
      go_ret
      exact ⟨rfl, zc⟩
    · have b3 : (y == c) = false := by simp [hyc]
      have CY := hid (CXP.out hyc)
      clear hyc CXP
      go_wp2_with fail
      refine (CY.out _ _ (own_read OS.out)).mono ?_
      rintro _ w15 ⟨v15, rfl, o15, x15⟩
      obtain ⟨a15, c15, e15, -, -⟩ := own_nums (k := .u64) (xs := []) o15
      subst e15
      have I15 := hid (own_read (k := .u64) (xs := []) (o15.alloc (.cells #[.int .i64 0, .int .i64 0, .int .u32 0, .slice a15 0 c15] 25)))
      clear o15
      go_wp2_with fail
      refine (CZ.out _ _ I15.out).mono ?_
      rintro _ w16 ⟨rfl, x16⟩
      go_wp2_with fail
      go_ret
      exact ⟨rfl, (zc.setCell (p := ⟨gb, P, none⟩) hgw _).trans (x15.trans (Ext.trans ((Ext.refl _).alloc _) x16))⟩
theorem walk (f : Frm) (fu : Value) (g : Frm) (gu : Value) (at_ c : Int) (w : World) (okf : f.Ok) (hf : Ints .u64 w fu f.body) (okg : g.Ok) (hg : Ints .u64 w gu g.body) (wa : (Lit.int .u16 at_).wf = true) (wc : (Lit.int .u8 c).wf = true) :
    Calls Try.prog 4 #[frmV f fu, frmV g gu, .int .u16 at_, .int .u8 c] w (Ret (.bool true) w) := by
  have wa := u16_wf wa
  have wc := u8_wf wc
  by_cases h1 : 300 < f.body.length
  · exact walk_skip f g fu gu at_ c w hf hg (.inl h1)
  by_cases h2 : 300 < g.body.length
  · exact walk_skip f g fu gu at_ c w hf hg (.inr h2)
  by_cases h3 : mayF f = true ∧ mayF g = true
  · exact walk_yes f g fu gu at_ c w okf okg hf hg wa (by omega) h1 h2 h3.1 h3.2
  · exact walk_no f g fu gu at_ c w okf okg hf hg h1 h2 h3
theorem own : ownKnob Try.prog.godebug = none := by kernel_rfl
set_option maxRecDepth 100000 in
theorem lifted (os : Os) (started : os.Started) (H : Type) (enc : TypeId × Value → H) :
    ReturnsInHanded {} Try.checked os 4 .any (Rows.frameBackSpec.pre6 enc Try.prog Try.f4 Rows.frameBackRow.domain false) (Rows.frameBackSpec.post enc Try.prog Try.f4 false true false false) := by
  refine returnsInHanded_of_change (C := Try.checked) own started (by kernel_rfl) Try.func4
    (ChangeSpec.witness6 (enc := enc) (C := Try.checked) false ⟨#[], #[.agg #[.int .i64 0, .int .i64 0, .int .u32 0, .slice none 0 0], .agg #[.int .i64 0, .int .i64 0, .int .u32 0, .slice none 0 0], .int .u16 0, .int .u8 0], []⟩ 8 (by kernel_rfl) (by kernel_rfl) (by kernel_rfl) (by kernel_rfl)) ?_
  intro W base args ds gs before hval0 hW _ _
  have hval : ∀ (j : Nat) t v, Try.f4.params[j]? = some t → args[j]? = some v → Value.okWide Try.prog W .any base t v := hval0
  have hW' := hW
  obtain ⟨p, q, hA0, hV, rfl, _, _⟩ := hW
  have hA : DataW.TrodAll enc Try.prog W 0 (fun _ => true) true Try.f4.params.toList args.toList ds p := hA0
  rw [Try.params4] at hA hval
  obtain ⟨v0, vs0, d0, ds0, p0, q0, hargs, rfl, rfl, h0, r0⟩ := trodAll_cons hA
  obtain ⟨v1, vs1, d1, ds1, p1, q1, rfl, rfl, rfl, h1, r1⟩ := trodAll_cons r0
  obtain ⟨v2, vs2, d2, ds2, p2, q2, rfl, rfl, rfl, h2, r2⟩ := trodAll_cons r1
  obtain ⟨v3, vs3, d3, ds3, p3, q3, rfl, rfl, rfl, h3, r3⟩ := trodAll_cons r2
  obtain ⟨rfl, rfl, rfl⟩ := trodAll_nil r3
  obtain rfl : args = #[v0, v1, v2, v3] := by cases args; simp_all
  obtain ⟨rfl, rfl⟩ := trodVars_none hV
  obtain ⟨f0, fu0, rfl, ok0, i0⟩ := open_Frame (hval 0 25 v0 rfl rfl) h0
  obtain ⟨f1, fu1, rfl, ok1, i1⟩ := open_Frame (hval 1 25 v1 rfl rfl) h1
  obtain ⟨a2, rfl, rfl, rfl, w2⟩ := open_int Try.underlying43 (hval 2 43 v2 rfl rfl) h2
  obtain ⟨a3, rfl, rfl, rfl, w3⟩ := open_int Try.underlying5 (hval 3 5 v3 rfl rfl) h3
  refine (walk f0 fu0 f1 fu1 a2 a3 W ok0 i0 ok1 i1 w2 w3).mono fun e W' ⟨he, hg⟩ => ⟨_, he, ?_⟩
  exact law_post (by kernel_rfl) (by kernel_rfl) rfl Try.underlying4 rfl rfl hW' hg

/-- the statement -/
theorem proved : Rows.FrameBackSaid :=
  OpenClaim.holds_of_wide 4 Try.f4 rfl rfl rfl rfl rfl rfl rfl ⟨rfl, rfl, rfl, rfl, rfl⟩ rfl rfl rfl rfl rfl (by kernel_rfl) Try.func4 (by kernel_rfl)
    (of_decide_eq_true (by kernel_rfl)) (by unfold Func.isWrapper; first | (rw [if_pos (by decide +kernel)]; kernel_rfl) | (rw [if_neg (by decide +kernel)]; exact ⟨rfl, rfl⟩))
    (fun os started H enc _ => lifted os started H enc)
end Go.Proofs.Yticabjdcegimcaa.frameBack
