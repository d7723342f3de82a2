/- What the functions of package perm answer of any lists. -/
import Derived.Test.YtalkbmnbggclpaaPm2
import Derived.Test.YtalkbmnbggclpaaPm3
import Derived.Test.YtalkbmnbggclpaaPm4
import Derived.Test.YtalkbmnbggclpaaPm6
namespace Go.Proofs.Ytalkbmnbggclpaa
open Go.RowKit

theorem pmRight (v : Value) (p : List Int) (w : World) (hv : Ints .i64 w v p) (_ : I64s p) : Calls Try.prog 16 #[v] w (Ret (.bool (ordB p)) w) := qmRight v p w hv
theorem pmOne (n : Int) (w : World) (h0 : -9223372036854775808 ≤ n) (h1 : n ≤ 9223372036854775807) : Calls Try.prog 14 #[.int .i64 n] w (RetGI (sideB n) (upL n.toNat) w) := qmOne n w h0 h1
theorem pmThen (v u : Value) (p q : List Int) (w : World) (hv : Ints .i64 w v p) (_ : I64s p) (hu : Ints .i64 w u q) (_ : I64s q) : Calls Try.prog 8 #[v, u] w (RetGI (ordB p && (ordB q && decide (q.length = p.length))) (thenL p q) w) := qmThen v u p q w hv hu
theorem pmBack (v : Value) (p : List Int) (w : World) (hv : Ints .i64 w v p) (_ : I64s p) : Calls Try.prog 9 #[v] w (RetGI (ordB p) (backL p) w) := qmBack v p w hv
theorem pmSign (v : Value) (p : List Int) (w : World) (hv : Ints .i64 w v p) (_ : I64s p) : Calls Try.prog 10 #[v] w (Ret (.tuple #[.int .i64 (if ordB p = true then sgnL p else 0), .int .i64 (if ordB p = true then 0 else 1)]) w) := qmSign v p w hv
theorem pmDo (v u : Value) (p x : List Int) (w : World) (hv : Ints .i64 w v p) (_ : I64s p) (hu : Ints .u64 w u x) (_ : U64s x) : Calls Try.prog 11 #[v, u] w (RetG (ordB p && decide (x.length = p.length)) (doL p x) w) := qmDo v u p x w hv hu
theorem pmRows (v u : Value) (p xs : List Int) (r c : Int) (w : World) (hv : Ints .i64 w v p) (_ : I64s p) (hu : Ints .u64 w u xs) (_ : U64s xs) : Calls Try.prog 12 #[v, matV r c u] w (RetGM (ordB p && (shB r c xs && decide (r = p.length))) r c (rowsL p c.toNat xs) w) := qmRows v u p xs r c w hv hu
theorem pmRings (v : Value) (p : List Int) (w : World) (hv : Ints .i64 w v p) (_ : I64s p) : Calls Try.prog 13 #[v] w (RetGII (ordB p) (ringsL p) w) := qmRings v p w hv
end Go.Proofs.Ytalkbmnbggclpaa
