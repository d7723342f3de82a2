/- Package tape's functions, with what they tell named. -/
import Derived.Test.YtcganfmlfoebpaaTp5
import Derived.Test.YtcganfmlfoebpaaSame
namespace Go.Proofs.Ytcganfmlfoebpaa
open Go.RowKit Go.Maps

def RetTp (L xs : List Int) (K E : Int) (w : World) (e : Ending) (w' : World) : Prop :=
  ∃ u v', e = .returned (.tuple #[u, .agg #[v', .int .i64 K], .int .i64 E]) ∧ Ints .u64 w' u L ∧ Ints .u64 w' v' xs ∧ Ext w w'
def RetTd (X K E : Int) (xs : List Int) (w : World) (e : Ending) (w' : World) : Prop :=
  ∃ v', e = .returned (.tuple #[.int .u64 X, .agg #[v', .int .i64 K], .int .i64 E]) ∧ Ints .u64 w' v' xs ∧ Ext w w'
theorem tpManyE {p n k K E : Int} {v : Value} {xs L : List Int} {w : World} (h0 : 0 ≤ p) (h1 : p ≤ 18446744073709551615) (hn : -9223372036854775808 ≤ n ∧ n ≤ 9223372036854775807) (hk : -9223372036854775808 ≤ k ∧ k ≤ 9223372036854775807)
    (hx : U64s xs) (hl : xs.length ≤ 1000000) (e1 : drL p 0 n k xs = L) (e2 : drK p 0 n k xs = K) (e3 : drE p 0 n k xs = E) (hv : Ints .u64 w v xs) :
    Calls Try.prog 10 #[.int .u64 p, .agg #[v, .int .i64 k], .int .i64 n] w (RetTp L xs K E w) := by
  subst e1; subst e2; subst e3
  exact (tpMany p n k v xs w h0 h1 hn hk hv hx hl).mono fun e w' ⟨u, v', he, o1, o2, x⟩ => ⟨u, v', he, own_ints o1, own_ints o2, x⟩
theorem tpOtherE {p n k K E : Int} {v : Value} {xs L : List Int} {w : World} (h0 : 0 ≤ p) (h1 : p ≤ 18446744073709551615) (hn : -9223372036854775808 ≤ n ∧ n ≤ 9223372036854775807) (hk : -9223372036854775808 ≤ k ∧ k ≤ 9223372036854775807)
    (hx : U64s xs) (hl : xs.length ≤ 1000000) (e1 : drL p 1 n k xs = L) (e2 : drK p 1 n k xs = K) (e3 : drE p 1 n k xs = E) (hv : Ints .u64 w v xs) :
    Calls Try.prog 11 #[.int .u64 p, .agg #[v, .int .i64 k], .int .i64 n] w (RetTp L xs K E w) := by
  subst e1; subst e2; subst e3
  exact (tpOther p n k v xs w h0 h1 hn hk hv hx hl).mono fun e w' ⟨u, v', he, o1, o2, x⟩ => ⟨u, v', he, own_ints o1, own_ints o2, x⟩
theorem tpDrawE {p k X K E : Int} {v : Value} {xs : List Int} {w : World} (h0 : 0 ≤ p) (h1 : p ≤ 18446744073709551615) (hk : -9223372036854775808 ≤ k ∧ k ≤ 9223372036854775807)
    (hx : U64s xs) (hl : xs.length ≤ 1000000) (e1 : drX p k xs = X) (e2 : drK p 0 1 k xs = K) (e3 : drE p 0 1 k xs = E) (hv : Ints .u64 w v xs) :
    Calls Try.prog 9 #[.int .u64 p, .agg #[v, .int .i64 k]] w (RetTd X K E xs w) := by
  subst e1; subst e2; subst e3
  exact (tpDraw p k v xs w h0 h1 hk hv hx hl).mono fun e w' ⟨v', he, o2, x⟩ => ⟨v', he, own_ints o2, x⟩
theorem tpLeftE {p k : Int} {n : Nat} {v : Value} {xs : List Int} {w : World} (h0 : 0 ≤ p) (h1 : p ≤ 18446744073709551615) (hx : U64s xs) (e1 : leftN p k xs = n) (hv : Ints .u64 w v xs) :
    Calls Try.prog 17 #[.int .u64 p, .agg #[v, .int .i64 k]] w (Ret (.int .i64 n) w) := e1 ▸ tpLeft p k v xs w h0 h1 hv hx
theorem tpRightE {k : Int} {B : Bool} {v : Value} {xs : List Int} {w : World} (e1 : tapeB k xs = B) (hv : Ints .u64 w v xs) :
    Calls Try.prog 12 #[.agg #[v, .int .i64 k]] w (Ret (.bool B) w) := e1 ▸ tpRight v k xs w hv
end Go.Proofs.Ytcganfmlfoebpaa
