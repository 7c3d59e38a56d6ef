/-
  Same of layer 3's reference, of one item each. Conditions: the items are equal.
-/
import Derived.Test.YtahemaondkjpiaaFe
namespace Go.Proofs.Ytahemaondkjpiaa
open Go.ChangeShapes Go.WideShapes Go.RowKit
set_option linter.unusedVariables false

set_option maxHeartbeats 1000000 in
theorem same_one (ga gb n pc pc' : Nat) (code kind : Int) (P P' : Option Addr) (l : List Int) (w : World) (hn : l.length = n) (hA : Blk w ga 36 #[.int .i64 code, .int .i64 kind, .slice P n pc]) (hB : Blk w gb 36 #[.int .i64 code, .int .i64 kind, .slice P' n pc'])
    (hP : Ints .u8 w w.heap.size P l) (hP' : Ints .u8 w w.heap.size P' l) (hby : Byte l) :
    Calls Try.prog 18 #[.slice (some ⟨ga, 0, none⟩) 1 1, .slice (some ⟨gb, 0, none⟩) 1 1] w fun e w' => e = .returned (.bool true) ∧ Below w.heap.size w w' := by
  obtain ⟨a0, a1, a2, _, _, _⟩ := hA.three
  go_enter Try.func18, Try.ntmps18
  go_wp2
  go_loopw [14] (fun v Wr => (v = .int .i64 0 ∧ Wr = w) ∨ (v = .int .i64 1 ∧ Below w.heap.size w Wr)) (fun v _ => 1 - (intOf v).toNat)
  case atStart => exact .inl ⟨rfl, rfl⟩
  case round =>
    rcases hrel with ⟨rfl, rfl⟩ | ⟨rfl, hb⟩
    · have bW := lat_alloc (Below.refl wr.heap.size wr) (.cells #[.int .i64 code, .int .i64 kind, .slice P n pc] 36)
      have GW := Blk.new (w := wr) (t := 36) (cs := #[.int .i64 code, .int .i64 kind, .slice P n pc])
      have hBW := hB.below bW
      have hPW := (hP.below bW).more bW.size
      have hPW' := (hP'.below bW).more bW.size
      go_wp2_with fail
      generalize wr.alloc (.cells #[.int .i64 code, .int .i64 kind, .slice P n pc] 36) = W at *
      obtain ⟨t0, t1, t2, _, _, _⟩ := GW.three
      obtain ⟨v0, v1, v2, _, _, _⟩ := hBW.three
      have K1 := fun q => str_of (w := W.drewN q) (cap := pc) hn hPW hby
      have K2 := fun q => str_of (w := W.drewN q) (cap := pc') hn hPW' hby
      clear hA hB hP hP' a0 a1 a2
      go_quiet (fail)
      go_wp2
      go_roundw
      case rel => exact .inr ⟨rfl, below_drewN bW⟩
      case measure => simp [intOf]
    · go_wp2
      go_ret
      exact ⟨rfl, hb⟩
end Go.Proofs.Ytahemaondkjpiaa
