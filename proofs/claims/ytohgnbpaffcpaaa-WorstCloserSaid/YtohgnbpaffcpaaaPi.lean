/-
  The program's first control, its step with any target, and the comparison of equal controls. Conditions: a valid junction.
-/
import Derived.Test.YtohgnbpaffcpaaaPt
import Derived.Test.YtohgnbpaffcpaaaIt
import Derived.BigQuiet
namespace Go.Proofs.Ytohgnbpaffcpaaa
open Go.ChangeShapes Go.WideShapes Go.RowKit
set_option linter.unusedVariables false

theorem pstep_any (A Bc D E : Option Addr) (cP d cL cX n : Nat) (P : List Ph) (C : List Int) (c : Ct) (st t : Int) (w : World) (hj : JunC P C n st) (hjv : JunV P C st) (hv : CtV P C n st c) (hP : Phs w w.heap.size A P) (hC : Ints .i64 w w.heap.size Bc C) (hcP : n ≤ cP) (hL : Prs w w.heap.size D c.li) (hX : Ints .i64 w w.heap.size E c.nx) :
    Calls Try.prog 22 #[.agg #[.slice A n cP, .slice Bc n d, .int .i64 st], .agg #[.slice D n cL, .int .i64 c.gr, .slice E 2 cX, .int .i64 c.wt], .int .i64 t] w fun e w' => ∃ v, e = .returned v ∧ Below w.heap.size w w' ∧ CtH w' w.heap.size n v (stepC P C n c t) := by
  have hn := hj.len
  obtain ⟨b, off, rfl, hb, hph⟩ := hP (by have := hj.h1; omega)
  have hph' : ∀ i, i < n → PhHere w b (off + i * 8) (phAt P i) := fun i hi => hph i (by omega)
  by_cases hw : 0 < c.wt
  · exact pstep_wait Bc D E b off cP d cL cX n P C c st t w hj hjv hv hb hph' hC hcP hL hX hw
  · by_cases ht : 0 ≤ t ∧ t < n
    · obtain ⟨T, rfl⟩ := Int.eq_ofNat_of_zero_le ht.1
      exact pstep_on Bc D E b off cP d cL cX n P C c st T w hj hjv hv hb hph' hC hcP hL hX hw (by omega)
    · exact pstep_off Bc D E b off cP d cL cX n P C c st t w hj hjv hv hb hph' hC hcP hL hX hw ht
end Go.Proofs.Ytohgnbpaffcpaaa
