/- Frames: what is put is read as it was, what is read is put so, what is cut or changed isn't read (in plain Lean; nothing of a program). -/
import Derived.Test.YticabjdcegimcaaFrM
namespace Go.Proofs.Yticabjdcegimcaa

structure Frm where
  kind : Int
  round : Int
  num : Int
  body : List Int
def Frm.zero : Frm := ⟨0, 0, 0, []⟩
/-- may it be? -/
def mayF (f : Frm) : Bool := decide (0 < f.kind ∧ f.kind < 5 ∧ 0 ≤ f.round ∧ f.round < 256 ∧ f.body.length ≤ 9000)
/-- its numbers are the machine's -/
def Frm.Ok (f : Frm) : Prop := (0 ≤ f.num ∧ f.num < 256 ^ 4) ∧ ∀ x ∈ f.body, 0 ≤ x ∧ x < 256 ^ 8
def bodyL (l : List Int) : List Int := l.flatMap fun x => byt x 8
def headL (f : Frm) : List Int := [163, f.kind, f.round] ++ byt f.num 4 ++ byt (f.body.length : Int) 2
def innL (f : Frm) : List Int := headL f ++ bodyL f.body
/-- its bytes -/
def putL (f : Frm) : List Int := innL f ++ byt (sumL (innL f)) 3
theorem bodyL_len : ∀ l : List Int, (bodyL l).length = 8 * l.length
  | [] => rfl
  | x :: l => by
    show (byt x 8 ++ bodyL l).length = _
    rw [List.length_append, byt_len, bodyL_len l, List.length_cons]; omega
theorem headL_len (f : Frm) : (headL f).length = 9 := by
  unfold headL
  rw [List.length_append, List.length_append, byt_len, byt_len]; rfl
theorem innL_len (f : Frm) : (innL f).length = 9 + 8 * f.body.length := by unfold innL; rw [List.length_append, headL_len, bodyL_len]
theorem putL_len (f : Frm) : (putL f).length = 12 + 8 * f.body.length := by unfold putL; rw [List.length_append, innL_len, byt_len]; omega
theorem Byt.append {l l' : List Int} (h : Byt l) (h' : Byt l') : Byt (l ++ l') := fun x hx => by
  rcases List.mem_append.1 hx with k | k
  · exact h x k
  · exact h' x k
theorem Byt.take {l : List Int} (h : Byt l) (n : Nat) : Byt (l.take n) := fun x hx => h x (List.mem_of_mem_take hx)
theorem Byt.drop {l : List Int} (h : Byt l) (n : Nat) : Byt (l.drop n) := fun x hx => h x (List.mem_of_mem_drop hx)
theorem Byt.get {l : List Int} (h : Byt l) (k : Nat) : 0 ≤ l.getD k 0 ∧ l.getD k 0 < 256 := by
  rcases Nat.lt_or_ge k l.length with c | c
  · have e : l.getD k 0 = l[k] := by simp [List.getD, c]
    rw [e]; exact h _ (List.getElem_mem c)
  · have e : l.getD k 0 = 0 := by simp [List.getD, List.getElem?_eq_none c]
    rw [e]; omega
theorem bodyL_byt : ∀ l : List Int, Byt (bodyL l)
  | [] => fun _ h => by cases h
  | x :: l => (byt_byt 8 x).append (bodyL_byt l)
theorem innL_byt {f : Frm} (h : mayF f = true) : Byt (innL f) := by
  unfold mayF at h
  rw [decide_eq_true_eq] at h
  refine Byt.append (Byt.append (Byt.append ?_ (byt_byt _ _)) (byt_byt _ _)) (bodyL_byt _)
  intro x hx
  simp only [List.mem_cons, List.not_mem_nil, or_false] at hx
  rcases hx with rfl | rfl | rfl <;> omega
theorem putL_byt {f : Frm} (h : mayF f = true) : Byt (putL f) := (innL_byt h).append (byt_byt _ _)

/-- a piece -/
def cutL (b : List Int) (o n : Nat) : List Int := (b.drop o).take n
theorem cutL_byt {b : List Int} (h : Byt b) (o n : Nat) : Byt (cutL b o n) := (h.drop o).take n
theorem cutL_len {b : List Int} {o n : Nat} (h : o + n ≤ b.length) : (cutL b o n).length = n := by unfold cutL; rw [List.length_take, List.length_drop]; omega
/-- how many numbers are said -/
def cntF (b : List Int) : Int := b.getD 7 0 * 256 + b.getD 8 0
def bodyF (b : List Int) (n : Nat) : List Int := (List.range n).map fun i => ofB (cutL b (9 + 8 * i) 8)
def nextF (b : List Int) : Frm := ⟨b.getD 1 0, b.getD 2 0, ofB (cutL b 3 4), bodyF b (cntF b).toNat⟩
/-- may the first nine bytes be? -/
def formB (b : List Int) : Bool := decide (b.getD 0 0 = 163 ∧ b.getD 1 0 ≠ 0 ∧ b.getD 1 0 ≤ 4 ∧ cntF b ≤ 9000)
def nextE (b : List Int) : Int :=
  if b.length < 12 then 3 else if formB b = false then 2 else if b.length < 12 + 8 * (cntF b).toNat then 3
  else if ofB (cutL b (9 + 8 * (cntF b).toNat) 3) ≠ sumL (b.take (9 + 8 * (cntF b).toNat)) then 4 else 0
theorem nextE_ok {b : List Int} (h : nextE b = 0) : 12 ≤ b.length ∧ formB b = true ∧ 12 + 8 * (cntF b).toNat ≤ b.length ∧ ofB (cutL b (9 + 8 * (cntF b).toNat) 3) = sumL (b.take (9 + 8 * (cntF b).toNat)) := by
  unfold nextE at h
  split at h
  · omega
  · split at h
    · omega
    · split at h
      · omega
      · split at h
        · omega
        · rename_i h1 h2 h3 h4
          exact ⟨by omega, by simpa using h2, by omega, Classical.not_not.1 h4⟩
theorem getD_take {l : List Int} {n k : Nat} (h : k < n) : (l.take n).getD k 0 = l.getD k 0 := by simp [List.getD, h]
theorem getD_app {l l' : List Int} {k : Nat} (h : k < l.length) : (l ++ l').getD k 0 = l.getD k 0 := by simp [List.getD, List.getElem?_append, h]
theorem getD_set {l : List Int} {i k : Nat} {c : Int} (h : k ≠ i) : (l.set i c).getD k 0 = l.getD k 0 := by
  simp only [List.getD, List.getElem?_set]
  rw [if_neg (fun e => h e.symm)]
/-- bytes that begin alike -/
theorem like {b b' : List Int} (h : ∀ k, k < 9 → b.getD k 0 = b'.getD k 0) : formB b = formB b' ∧ cntF b = cntF b' := by
  have h7 := h 7 (by omega); have h8 := h 8 (by omega)
  have e : cntF b = cntF b' := by unfold cntF; rw [h7, h8]
  refine ⟨?_, e⟩
  unfold formB
  rw [h 0 (by omega), h 1 (by omega), e]
theorem head_get {f : Frm} : (headL f).getD 0 0 = 163 ∧ (headL f).getD 1 0 = f.kind ∧ (headL f).getD 2 0 = f.round ∧ (headL f).getD 7 0 = (f.body.length : Int) / 256 % 256 ∧ (headL f).getD 8 0 = (f.body.length : Int) % 256 := ⟨rfl, rfl, rfl, rfl, rfl⟩
theorem put_get {f : Frm} (r : List Int) {k : Nat} (h : k < 9) : (putL f ++ r).getD k 0 = (headL f).getD k 0 := by
  unfold putL innL
  rw [List.append_assoc, List.append_assoc, getD_app (by rw [headL_len]; exact h)]
theorem put_cnt {f : Frm} (h : mayF f = true) (r : List Int) : cntF (putL f ++ r) = (f.body.length : Int) ∧ formB (putL f ++ r) = true := by
  unfold mayF at h
  rw [decide_eq_true_eq] at h
  obtain ⟨e0, e1, e2, e7, e8⟩ := head_get (f := f)
  have ec : cntF (putL f ++ r) = (f.body.length : Int) := by
    unfold cntF
    rw [put_get r (by omega), put_get r (by omega), e7, e8]
    omega
  refine ⟨ec, ?_⟩
  unfold formB
  rw [decide_eq_true_eq, ec, put_get r (by omega), put_get r (by omega), e0, e1]
  omega
theorem body_cut : ∀ (l r : List Int) (i : Nat), i < l.length → ((bodyL l ++ r).drop (8 * i)).take 8 = byt (l.getD i 0) 8
  | [], r, i, h => by simp at h
  | x :: l, r, 0, _ => by
    show ((byt x 8 ++ bodyL l ++ r).drop 0).take 8 = byt x 8
    rw [List.drop_zero, List.append_assoc]
    exact List.take_left' (byt_len 8 x)
  | x :: l, r, i + 1, h => by
    show ((byt x 8 ++ bodyL l ++ r).drop (8 * (i + 1))).take 8 = byt (l.getD i 0) 8
    rw [List.append_assoc, show 8 * (i + 1) = 8 + 8 * i by omega, ← List.drop_drop, List.drop_left' (byt_len 8 x)]
    exact body_cut l r i (by simpa using h)
theorem put_body {f : Frm} (h : f.Ok) (r : List Int) : bodyF (putL f ++ r) f.body.length = f.body := by
  unfold bodyF
  refine List.ext_getElem (by simp) fun i h1 h2 => ?_
  rw [List.getElem_map, List.getElem_range]
  have hi : i < f.body.length := h2
  have e : cutL (putL f ++ r) (9 + 8 * i) 8 = byt (f.body.getD i 0) 8 := by
    unfold cutL putL innL
    rw [← List.drop_drop, List.append_assoc, List.append_assoc, List.drop_left' (headL_len f)]
    exact body_cut _ _ _ hi
  have e2 : f.body.getD i 0 = f.body[i] := by simp [List.getD, hi]
  rw [e, e2]
  have := h.2 _ (List.getElem_mem hi)
  exact ofB_byt 8 _ this.1 this.2
theorem sum_byt (l : List Int) : ofB (byt (sumL l) 3) = sumL l := ofB_byt 3 _ (sumL_range l).1 (Int.lt_trans (sumL_range l).2 (by decide))
/-- what is put is read as it was -/
theorem next_put {f : Frm} (hm : mayF f = true) (h : f.Ok) (r : List Int) : nextE (putL f ++ r) = 0 ∧ nextF (putL f ++ r) = f ∧ cntF (putL f ++ r) = (f.body.length : Int) := by
  obtain ⟨hc, hfm⟩ := put_cnt hm r
  have hl : (putL f ++ r).length = 12 + 8 * f.body.length + r.length := by rw [List.length_append, putL_len]
  have hti : (putL f ++ r).take (9 + 8 * f.body.length) = innL f := by
    unfold putL
    rw [List.append_assoc]
    exact List.take_left' (innL_len f)
  have hcu : cutL (putL f ++ r) (9 + 8 * f.body.length) 3 = byt (sumL (innL f)) 3 := by
    unfold cutL putL
    rw [List.append_assoc, List.drop_left' (innL_len f)]
    exact List.take_left' (byt_len 3 _)
  refine ⟨?_, ?_, hc⟩
  · unfold nextE
    rw [hc, hfm, Int.toNat_natCast, hti, hcu, sum_byt, if_neg (by omega), if_neg (by simp), if_neg (by omega), if_neg (by simp)]
  · unfold nextF
    rw [hc, Int.toNat_natCast, put_body h r]
    obtain ⟨-, e1, e2, -, -⟩ := head_get (f := f)
    rw [put_get r (by omega), put_get r (by omega), e1, e2]
    have e3 : cutL (putL f ++ r) 3 4 = byt f.num 4 := by
      unfold cutL putL innL headL
      rw [List.append_assoc, List.append_assoc, List.append_assoc, List.append_assoc]
      rw [show ∀ (x y z : Int) (l : List Int), List.drop 3 ([x, y, z] ++ l) = l from fun _ _ _ _ => rfl]
      exact List.take_left' (byt_len 4 _)
    rw [e3, ofB_byt 4 _ h.1.1 h.1.2]
/-- frames with the same bytes are the same -/
theorem put_inj {f g : Frm} (hf : mayF f = true) (of : f.Ok) (hg : mayF g = true) (og : g.Ok) (e : putL f = putL g) : f = g := by
  have h1 := (next_put hf of []).2.1
  have h2 := (next_put hg og []).2.1
  rw [e] at h1
  exact h1.symm.trans h2
/-- what is cut is none -/
theorem next_cut {b : List Int} (h : nextE b = 0) {m : Nat} (hm : m < 12 + 8 * (cntF b).toNat) : nextE (b.take m) = 3 := by
  obtain ⟨h1, h2, h3, -⟩ := nextE_ok h
  have hl : (b.take m).length = m := by rw [List.length_take]; omega
  unfold nextE
  by_cases c : m < 12
  · rw [if_pos (by omega)]
  · obtain ⟨e1, e2⟩ := like (b := b.take m) (b' := b) fun k hk => getD_take (by omega)
    rw [if_neg (by omega), e1, h2, e2, if_neg (by simp), if_pos (by omega)]
/-- what is changed behind the first nine is none -/
theorem next_set {f : Frm} (hm : mayF f = true) (h3 : f.body.length ≤ 9000 → f.body.length ≤ 3000) {k : Nat} {c : Int} (hk : 9 ≤ k) (hk2 : k < (putL f).length) (hc : 0 ≤ c ∧ c < 256) (hne : (putL f).getD k 0 ≠ c) : nextE ((putL f).set k c) = 4 := by
  have hlen := putL_len f
  have hb := h3 (by unfold mayF at hm; rw [decide_eq_true_eq] at hm; exact hm.2.2.2.2)
  obtain ⟨hc1, hfm⟩ := put_cnt hm []
  rw [List.append_nil] at hc1 hfm
  obtain ⟨e1, e2⟩ := like (b := (putL f).set k c) (b' := putL f) fun j hj => getD_set (by omega)
  have hti : (putL f).take (9 + 8 * f.body.length) = innL f := List.take_left' (innL_len f)
  have hcu : cutL (putL f) (9 + 8 * f.body.length) 3 = byt (sumL (innL f)) 3 := by
    unfold cutL putL
    rw [List.drop_left' (innL_len f)]
    exact List.take_of_length_le (by rw [byt_len]; exact Nat.le_refl _)
  have hlp : ((putL f).set k c).length = 12 + 8 * f.body.length := by rw [List.length_set, hlen]
  unfold nextE
  rw [e1, hfm, e2, hc1, Int.toNat_natCast, if_neg (by omega), if_neg (by simp), if_neg (by omega), if_pos]
  by_cases hin : k < 9 + 8 * f.body.length
  · have t1 : ((putL f).set k c).take (9 + 8 * f.body.length) = (innL f).set k c := by rw [List.take_set, hti]
    have t2 : cutL ((putL f).set k c) (9 + 8 * f.body.length) 3 = byt (sumL (innL f)) 3 := by
      unfold cutL
      rw [List.drop_set, if_pos hin]
      exact hcu
    rw [t1, t2, sum_byt]
    have hg : (innL f).getD k 0 ≠ c := by
      intro e
      apply hne
      rw [← e]
      unfold putL
      exact getD_app (by rw [innL_len]; exact hin)
    exact fun e => sum_set (innL_byt hm) (by rw [innL_len]; exact hin) (by rw [innL_len]; omega) hc hg e.symm
  · have t1 : ((putL f).set k c).take (9 + 8 * f.body.length) = innL f := by
      rw [List.take_set_of_le (by omega), hti]
    have t2 : cutL ((putL f).set k c) (9 + 8 * f.body.length) 3 = (byt (sumL (innL f)) 3).set (k - (9 + 8 * f.body.length)) c := by
      unfold cutL
      rw [List.drop_set, if_neg hin, List.take_set]
      congr 1
    rw [t1, t2]
    intro e
    have hb1 := byt_byt 3 (sumL (innL f))
    have hb2 : Byt ((byt (sumL (innL f)) 3).set (k - (9 + 8 * f.body.length)) c) := fun x hx => by
      rcases List.mem_or_eq_of_mem_set hx with h | h
      · exact hb1 x h
      · rw [h]; exact hc
    have hq := ofB_inj hb2 hb1 (by rw [List.length_set]) (e.trans (sum_byt _).symm)
    apply hne
    have hk3 : k - (9 + 8 * f.body.length) < (byt (sumL (innL f)) 3).length := by rw [byt_len]; omega
    have hv : ((byt (sumL (innL f)) 3).set (k - (9 + 8 * f.body.length)) c).getD (k - (9 + 8 * f.body.length)) 0 = (byt (sumL (innL f)) 3).getD (k - (9 + 8 * f.body.length)) 0 := congrArg (fun l => l.getD (k - (9 + 8 * f.body.length)) 0) hq
    have hs : ((byt (sumL (innL f)) 3).set (k - (9 + 8 * f.body.length)) c).getD (k - (9 + 8 * f.body.length)) 0 = c := by simp [List.getD, hk3]
    rw [hs] at hv
    rw [hv]
    unfold putL
    simp only [List.getD, List.getElem?_append]
    rw [if_neg (by rw [innL_len]; omega), innL_len]
theorem take_cut (b : List Int) (m n : Nat) : b.take (m + n) = b.take m ++ cutL b m n := List.take_add
theorem bodyL_app (l l' : List Int) : bodyL (l ++ l') = bodyL l ++ bodyL l' := by unfold bodyL; rw [List.flatMap_append]
theorem body_of {b : List Int} (hb : Byt b) : ∀ n : Nat, 9 + 8 * n ≤ b.length → bodyL (bodyF b n) = cutL b 9 (8 * n)
  | 0, _ => by unfold cutL; rw [Nat.mul_zero, List.take_zero]; rfl
  | n + 1, h => by
    have e : bodyF b (n + 1) = bodyF b n ++ [ofB (cutL b (9 + 8 * n) 8)] := by unfold bodyF; rw [List.range_succ, List.map_append]; rfl
    have e2 : bodyL [ofB (cutL b (9 + 8 * n) 8)] = cutL b (9 + 8 * n) 8 := by
      show byt (ofB (cutL b (9 + 8 * n) 8)) 8 ++ [] = _
      rw [List.append_nil]
      have hl : (cutL b (9 + 8 * n) 8).length = 8 := cutL_len (by omega)
      have := byt_ofB (cutL_byt hb (9 + 8 * n) 8)
      rw [hl] at this
      exact this
    rw [e, bodyL_app, body_of hb n (by omega), e2]
    unfold cutL
    rw [show 8 * (n + 1) = 8 * n + 8 by omega, List.take_add, List.drop_drop]
theorem cut_one {b : List Int} {k : Nat} (h : k < b.length) : cutL b k 1 = [b.getD k 0] := by
  have e : b.getD k 0 = b[k] := by simp [List.getD, h]
  rw [e]
  unfold cutL
  rw [List.drop_eq_getElem_cons h]
  rfl
theorem head_of {b : List Int} (hb : Byt b) (h : 9 ≤ b.length) {f : Frm} (hk : f.kind = b.getD 1 0) (hr : f.round = b.getD 2 0) (hn : f.num = ofB (cutL b 3 4)) (hc : (f.body.length : Int) = cntF b) (h0 : b.getD 0 0 = 163) : headL f = b.take 9 := by
  have h4 : byt f.num 4 = cutL b 3 4 := by
    have hl : (cutL b 3 4).length = 4 := cutL_len (by omega)
    have := byt_ofB (cutL_byt hb 3 4)
    rw [hl] at this
    rw [hn]; exact this
  have h7 := hb.get 7
  have h8 := hb.get 8
  unfold cntF at hc
  unfold headL
  rw [h4, hc, hk, hr, ← h0]
  have hbl : byt (b.getD 7 0 * 256 + b.getD 8 0) 2 = [b.getD 7 0, b.getD 8 0] := by
    show [(b.getD 7 0 * 256 + b.getD 8 0) / 256 % 256, (b.getD 7 0 * 256 + b.getD 8 0) % 256] = _
    congr 1
    · omega
    · congr 1; omega
  rw [hbl]
  rw [take_cut b 8 1, take_cut b 7 1, take_cut b 3 4, take_cut b 2 1, take_cut b 1 1, take_cut b 0 1, cut_one (by omega), cut_one (by omega), cut_one (by omega), cut_one (by omega), cut_one (by omega), List.take_zero]
  simp
/-- what is read may be, and is put in just these bytes -/
theorem next_of {b : List Int} (hb : Byt b) (h : nextE b = 0) : mayF (nextF b) = true ∧ (nextF b).Ok ∧ putL (nextF b) = b.take (12 + 8 * (cntF b).toNat) := by
  obtain ⟨h1, h2, h3, h4⟩ := nextE_ok h
  unfold formB at h2
  rw [decide_eq_true_eq] at h2
  have g1 := hb.get 1
  have g2 := hb.get 2
  have g7 := hb.get 7
  have g8 := hb.get 8
  have hc : 0 ≤ cntF b := by unfold cntF; omega
  have hbl : (nextF b).body.length = (cntF b).toNat := by show (bodyF b _).length = _; unfold bodyF; rw [List.length_map, List.length_range]
  have hci : ((nextF b).body.length : Int) = cntF b := by rw [hbl]; omega
  have hin : innL (nextF b) = b.take (9 + 8 * (cntF b).toNat) := by
    unfold innL
    rw [head_of hb (by omega) rfl rfl rfl hci h2.1, take_cut]
    exact congrArg _ (body_of hb _ (by omega))
  refine ⟨?_, ⟨?_, ?_⟩, ?_⟩
  · unfold mayF
    rw [decide_eq_true_eq, hbl]
    show 0 < b.getD 1 0 ∧ b.getD 1 0 < 5 ∧ 0 ≤ b.getD 2 0 ∧ b.getD 2 0 < 256 ∧ _
    omega
  · have := ofB_range (cutL_byt hb 3 4)
    rw [cutL_len (by omega)] at this
    exact this
  · intro x hx
    have hx : x ∈ bodyF b (cntF b).toNat := hx
    unfold bodyF at hx
    obtain ⟨i, hi, rfl⟩ := List.mem_map.1 hx
    have hi := List.mem_range.1 hi
    have := ofB_range (cutL_byt hb (9 + 8 * i) 8)
    rw [cutL_len (by omega)] at this
    exact this
  · unfold putL
    rw [hin, ← h4, show 12 + 8 * (cntF b).toNat = (9 + 8 * (cntF b).toNat) + 3 by omega]
    have hl : (cutL b (9 + 8 * (cntF b).toNat) 3).length = 3 := cutL_len (by omega)
    have := byt_ofB (cutL_byt hb (9 + 8 * (cntF b).toNat) 3)
    rw [hl] at this
    rw [this]
    exact (take_cut b (9 + 8 * (cntF b).toNat) 3).symm
end Go.Proofs.Yticabjdcegimcaa
