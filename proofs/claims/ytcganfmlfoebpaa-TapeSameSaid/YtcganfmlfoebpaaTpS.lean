/- A tape's rest, words ahead and behind, words slipped in: what is drawn stays. -/
import Derived.Test.YtcganfmlfoebpaaTpL
import Derived.Deep.RegionLaw
namespace Go.Proofs.Ytcganfmlfoebpaa
open Go.RowKit Go.Maps

/-- a slice from a place on -/
theorem piece_run {w : World} {a : Option Addr} {cap lo : Nat} {xs : List Int} (h : Ints .u64 w (.slice a xs.length cap) xs) (hlo : lo ≤ xs.length) :
    ∃ a' c', (∀ W, (Instr.slice 23 (.slice a xs.length cap) (some (.int .i64 (lo : Int))) none none).run Try.prog W = .ok (.slice a' (xs.length - lo) c') W) ∧
      (∀ W, (Instr.sliceAt 23 (.slice a xs.length cap) (some (.int .i64 (lo : Int))) none none).run Try.prog W = .ok (.slice a' (xs.length - lo) c') W) ∧
      Ints .u64 w (.slice a' (xs.length - lo) c') (xs.drop lo) := by
  have hu : Try.prog.underlying 23 = some (.slice (Try.prog.elem 23)) := by kernel_rfl
  have hs : ∀ W, ((sizeOf (Try.prog.elem 23)).run Try.prog W) = .ok 1 W := fun W => by kernel_rfl
  have hr : ∀ W, (Instr.slice 23 (.slice a xs.length cap) (some (.int .i64 (lo : Int))) none none).run Try.prog W = .ok (.slice (if cap = lo then a else a.map fun x => x.add lo) (xs.length - lo) (cap - lo)) W := fun W => by
    rw [run_slice_l W 23 _ xs.length cap hu .i64 lo (by omega) (by omega), hs]
    simp only [Result.andThen, sliced, Int.toNat_natCast]
    by_cases e : cap = lo
    · rw [if_pos e, if_pos (by omega)]
    · rw [if_neg e, if_neg (by omega)]
      simp
  refine ⟨_, _, hr, fun W => ?_, h.dropq lo hlo⟩
  rw [run_sliceAt_slice W 23 _ _ _ _ hu]
  exact hr W

section
variable {P : Program}
/-- an append of what lies somewhere onto a row of the call's own, at a step of a region that draws -/
theorem step_append_ints {ops : Array Oper} {o : Oper} {a : Act} {K : Act → World → Prop} {E : Prop} {Q : Exit → Act → World → Prop} {w : World} (hgd : o.guard = none) (s x : Operand) (t : TypeId)
    (ho : o.op = .call { callee := .builtin .append, args := #[s, x], argTypes := #[t, t] })
    (base : Nat) (e : TypeId) (i : TypeInfo) (z : Value) (bytes : Nat) (ht : P.underlying t = some (.slice e)) (hi : P.info? e = some i) (hz : i.zero = some z)
    (hsize : i.size = 1) (hby : i.bytes = bytes) (hzs : z.cells.size = 1)
    (v : Value) (n : Nat) (xs : List Value) (hs : a.eval s = v) (hown : w.ownsRow base e 1 v n xs)
    (u : Value) (ss : List Int) (hx : a.eval x = u) (hI : Ints .u64 w u ss)
    (h63 : n + ss.length ≤ maxLen) (hbytes : (n + ss.length) * bytes ≤ 140737488355328) (hbase : base ≤ w.heap.size)
    (h : ∀ v' w', w'.ownsRow base e 1 v' (n + ss.length) (xs ++ ss.map (Value.int .u64)) → w.grownBy w' v.ownBlock → K (a.put o.dst v') w') :
    if Region.wanted o (yielded ops a.tmps) = true then Oper.wp P o a w K Q else E := by
  have hw : Region.wanted o (yielded ops a.tmps) = true := by simp [Region.wanted, hgd]
  rw [if_pos hw]
  obtain ⟨v', w', hr, h2, h3⟩ := run_append_ints (P := P) w base t o.type e i z bytes ht hi hz hsize hby hzs v n xs hown u ss hI h63 hbytes hbase
  unfold Oper.wp execOp
  simp only [ho, resolve, invoke, builtin, Sem.run_bind, Sem.run_pure, Result.andThen_ok, List.map_toArray, List.map_cons, List.map_nil, hs, hx, hr]
  exact h v' w' h2 h3
end

theorem same_facts {p : Int} {K kk : Nat} {xs hd bs : List Int} (hp : rightB p = true) (hl : xs.length ≤ 60) (hK : K ≤ xs.length) (ha : hd.length ≤ 60) (hb : bs.length ≤ 60) (hk : kk ≤ ((xs.drop K).filter (cntB p)).length) :
    ∃ (L : List Int) (n : Nat), n ≤ 60 ∧
      (drL p 0 kk K xs = L ∧ drK p 0 kk K xs = ((K + n : Nat) : Int) ∧ drE p 0 kk K xs = 0) ∧
      (drL p 0 kk hd.length (hd ++ xs.drop K ++ bs) = L ∧ drK p 0 kk hd.length (hd ++ xs.drop K ++ bs) = ((hd.length + n : Nat) : Int) ∧ drE p 0 kk hd.length (hd ++ xs.drop K ++ bs) = 0) ∧
      (cntB p 18446744073709551615 = false → ∃ J : Nat, drL p 0 kk 0 (slip 18446744073709551615 (xs.drop K)) = L ∧ drK p 0 kk 0 (slip 18446744073709551615 (xs.drop K)) = J ∧ drE p 0 kk 0 (slip 18446744073709551615 (xs.drop K)) = 0) := by
  have hg := goodB_0 hp
  have hle := List.length_filter_le (cntB p) (xs.drop K)
  rw [List.length_drop] at hle
  have hu := used_le (g := cntB p) (xs.drop K) kk
  rw [List.length_drop] at hu
  refine ⟨(((xs.drop K).filter (cntB p)).take kk).map (fun x => x % p), used (cntB p) kk (xs.drop K), by omega, ?_, ?_, fun hc => ?_⟩
  · have := many_yes (m := 0) (n := kk) hp (by omega) hK (by omega) (by rw [hg]; exact hk)
    rw [hg] at this
    exact this
  · have hdd : (hd ++ xs.drop K ++ bs).drop hd.length = xs.drop K ++ bs := by rw [List.append_assoc, List.drop_left]
    obtain ⟨h1, h2, h3⟩ := many_yes (m := 0) (n := kk) (K := hd.length) (xs := hd ++ xs.drop K ++ bs) hp (by simp only [List.length_append, List.length_drop]; omega) (by simp only [List.length_append]; omega) (by omega) (by rw [hg, hdd, List.filter_append, List.length_append]; omega)
    rw [hg, hdd] at h1 h2
    rw [used_app _ _ _ hk] at h2
    have := nums_app (g := cntB p) (xs.drop K) bs kk hk
    unfold numsW at this
    rw [this] at h1
    exact ⟨h1, h2, h3⟩
  · have hsl := slip_len 18446744073709551615 (xs.drop K)
    rw [List.length_drop] at hsl
    obtain ⟨h1, h2, h3⟩ := many_yes (m := 0) (n := kk) (K := 0) (xs := slip 18446744073709551615 (xs.drop K)) hp (by omega) (by omega) (by omega) (by rw [hg, List.drop_zero, slip_filter hc]; exact hk)
    rw [hg, List.drop_zero, slip_filter hc] at h1
    exact ⟨_, h1, h2, h3⟩
theorem slip_u64 {ws : List Int} (h : U64s ws) : U64s (slip 18446744073709551615 ws) := by
  induction ws with
  | nil => intro x hx; cases hx
  | cons y ws ih =>
    intro x hx
    rw [slip, List.mem_cons, List.mem_cons] at hx
    rcases hx with rfl | rfl | hx
    · omega
    · exact h _ (by simp)
    · exact ih (fun z hz => h z (by simp [hz])) x hx
theorem append_u64 {hd bs : List Int} (ha : U64s hd) (hb : U64s bs) : U64s (hd ++ bs) := fun x hx => by
  rcases List.mem_append.1 hx with h | h
  · exact ha x h
  · exact hb x h
end Go.Proofs.Ytcganfmlfoebpaa
