/-
  The order of claims is that of the other side, and so is the best of them. Conditions: none.
-/
import Derived.Test.YtdgmfledhcgncaaRo
import Derived.Test.YtdgmfledhcgncaaRq
namespace Go.Proofs.Ytdgmfledhcgncaa
open Go.ChangeShapes Go.WideShapes Go.RowKit

theorem less_all : LessAll := fun per cap hold lock sp sg A c n l now hn hl hS hper hcap hlock hnow x y w hs hx hy h1 h2 =>
  rless_any per cap hold lock sp sg A c n l now x y w hn hs hl hS hper hcap hlock hnow hx hy h1 h2
theorem orderslaw_any (D : Option Addr) (d : Nat) (l : List Int) (now0 : Int) (w : World) (hs : Ints .i64 w w.heap.size D l) (hn : Nums l) (hl : l.length ≤ 9223372036854775807) (n0 : -9223372036854775808 ≤ now0) (n1 : now0 ≤ 9223372036854775807) :
    Calls Try.prog 3 #[.slice D l.length d, .int .i64 now0] w fun e w' => e = .returned (.bool true) ∧ Below w.heap.size w w' := orders_of less_all D d l now0 w hs hn hl n0 n1
end Go.Proofs.Ytdgmfledhcgncaa
