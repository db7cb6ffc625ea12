/-
  What the document's own run answers (lodgeref.RunProg): the same error, and the same result, in memory of its own.
-/
import Derived.Test.YtoepcplbpochpaaDoorRunPlaced
namespace Go.Proofs.YtoepcplbpochpaaDoor
open Go.RowKit

def ProgPost (w : World) (r : Int × St) (e : Ending) (w' : World) : Prop :=
  ∃ v vp, e = .returned (.tuple #[v, vp, .int .i64 r.1]) ∧ ResOf w' w.heap.size v r.2 ∧ Below w.heap.size w w'
theorem runProg_any (P R V : Int) (L : List In4) (ac aa : Option Addr) (cc ca : Nat) (xs : List Int) (fuel : Int) (w : World) (hH : HeldIns w ac L) (hA : HeldI w aa xs) (hn : L.length ≤ 9223372036854775807) (hl : xs.length ≤ 9223372036854775807) :
    Calls Tryd.prog 18 #[.agg #[.int .i64 P, .int .i64 R, .int .i64 V, .slice ac L.length cc], .slice aa xs.length ca, .int .i64 fuel] w (ProgPost w (runE P R V L xs fuel)) := by
  refine (runPlaced_any P R V L ac aa cc ca xs fuel w hH hA hn hl).mono ?_
  rintro e w' ⟨v, vp, h1, h2, _, h3⟩
  exact ⟨v, vp, h1, h2, h3⟩
end Go.Proofs.YtoepcplbpochpaaDoor
