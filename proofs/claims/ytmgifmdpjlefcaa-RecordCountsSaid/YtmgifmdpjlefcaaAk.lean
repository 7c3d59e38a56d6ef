/-
  The sanity check of layer 23's laws. Conditions: none.
-/
import Derived.Test.YtmgifmdpjlefcaaPa
import Derived.Test.YtmgifmdpjlefcaaQ
namespace Go.Proofs.Ytmgifmdpjlefcaa
open Go.ChangeShapes Go.WideShapes Go.ChangeAt Go.RowKit
set_option linter.unusedVariables false

theorem size_any (n : Int) (w : World) (h : 0 ≤ n ∧ n ≤ 1000000) : Calls Try.prog 18 #[.int .i64 n] w fun e w' => e = .returned (.int .i64 (3 + n)) ∧ w = w' := by
  have e : IntKind.i64.wrap (3 + n) = 3 + n := by rw [IntKind.wrap_i64]; omega
  go_enter Try.func18, Try.ntmps18
  go_wp2
  go_ret
  exact ⟨rfl, rfl⟩
set_option maxRecDepth 20000 in
set_option maxHeartbeats 2000000 in
theorem Parse_bad (g p c : Nat) (w : World) (B : Blk w g 5 #[.int .u8 4, .int .u8 0, .int .u8 0, .int .u8 0]) (Bp : Blk w p 3 #[.int .i64 1]) :
    Calls Try.prog 23 #[.slice (some ⟨g, 0, none⟩) 4 4, .slice (some ⟨p, 0, none⟩) 1 1] w fun e w' => Below w.heap.size w w' ∧ e = .returned (.tuple #[.slice none 0 0, .int .i64 6]) := by
  go_enter Try.func23, Try.ntmps23
  go_wp2_with fail
  go_loopw [0, 13] (fun s0 v wr => s0 = .slice (some ⟨g, 0, none⟩) 4 4 ∧ v = .int .i64 0 ∧ wr = w) (fun _ v _ => 1 - (intOf v).toNat)
  case atStart => exact ⟨rfl, rfl, rfl⟩
  case round =>
    obtain ⟨rfl, rfl, rfl⟩ := hrel
    have p0 := Bp.at 0 rfl
    go_wp2_with fail
    refine (size_any 1 _ (by omega)).mono ?_
    rintro e w1 ⟨rfl, rfl⟩
    go_wp2_with fail
    refine (size_any 1 _ (by omega)).mono ?_
    rintro e w1 ⟨rfl, rfl⟩
    go_wp2_with fail
    refine (parse_bad g 4 _ B (by omega) (by omega)).mono ?_
    rintro e w1 ⟨hb1, f1, f2, A1, A2, n1, m1, n2, m2, rfl⟩
    go_wp2_with fail
    go_ret2
    exact ⟨hb1.alloc hb1.size _, rfl⟩
theorem blk_new {w : World} {t : TypeId} {cs : Array Value} {n : Nat} (h : n = w.heap.size) : Blk (w.alloc (.cells cs t)) n t cs := by
  subst h; exact Blk.new
set_option maxRecDepth 20000 in
set_option maxHeartbeats 2000000 in
theorem awake_any (w : World) : Calls Try.prog 20 #[] w fun e w' => e = .returned (.bool true) ∧ Below w.heap.size w w' := by
  go_enter Try.func20, Try.ntmps20
  have hse : (strOf [2, 0, 1, 4]).toList = [2, 0, 1, 4] := by decide +kernel
  have BV := Blk.new (w := (w.alloc (.cells #[.int .i64 1] 3)).alloc (.cells #[.int .i64 4] 3)) (t := 40) (cs := #[.bool false, .bool true, .slice (some ⟨w.heap.size, 0, none⟩) 1 1, .slice (some ⟨w.heap.size + 1, 0, none⟩) 1 1])
  have B1 := ((Blk.new (w := w) (t := 3) (cs := #[.int .i64 1])).alloc (.cells #[.int .i64 4] 3)).alloc (.cells #[.bool false, .bool true, .slice (some ⟨w.heap.size, 0, none⟩) 1 1, .slice (some ⟨w.heap.size + 1, 0, none⟩) 1 1] 40)
  have B2 := (Blk.new (w := w.alloc (.cells #[.int .i64 1] 3)) (t := 3) (cs := #[.int .i64 4])).alloc (.cells #[.bool false, .bool true, .slice (some ⟨w.heap.size, 0, none⟩) 1 1, .slice (some ⟨w.heap.size + 1, 0, none⟩) 1 1] 40)
  simp only [heap_size] at BV B2
  have bW := lat_alloc (lat_alloc (lat_alloc (Below.refl w.heap.size w) (.cells #[.int .i64 1] 3)) (.cells #[.int .i64 4] 3)) (.cells #[.bool false, .bool true, .slice (some ⟨w.heap.size, 0, none⟩) 1 1, .slice (some ⟨w.heap.size + 1, 0, none⟩) 1 1] 40)
  go_wp2_with fail
  refine (bytes_one _ _ _ _ BV B1 B2).mono ?_
  clear BV B1 B2
  generalize ((w.alloc (.cells #[.int .i64 1] 3)).alloc (.cells #[.int .i64 4] 3)).alloc (.cells #[.bool false, .bool true, .slice (some ⟨w.heap.size, 0, none⟩) 1 1, .slice (some ⟨w.heap.size + 1, 0, none⟩) 1 1] 40) = W at *
  rintro e w1 ⟨hb1, A, c, rfl, hI⟩
  have bx := lat_alloc (lat_alloc (Below.refl w1.heap.size w1) (.cells #[.int .u8 4, .int .u8 0, .int .u8 0, .int .u8 0] 5)) (.cells #[.int .i64 1] 3)
  have G1 := (Blk.new (w := w1) (t := 5) (cs := #[.int .u8 4, .int .u8 0, .int .u8 0, .int .u8 0])).alloc (.cells #[.int .i64 1] 3)
  have G2 := Blk.new (w := w1.alloc (.cells #[.int .u8 4, .int .u8 0, .int .u8 0, .int .u8 0] 5)) (t := 3) (cs := #[.int .i64 1])
  simp only [heap_size] at G2
  go_wp2_with fail
  refine (Parse_bad _ _ 4 _ G1 G2).mono ?_
  clear G1 G2
  generalize (w1.alloc (.cells #[.int .u8 4, .int .u8 0, .int .u8 0, .int .u8 0] 5)).alloc (.cells #[.int .i64 1] 3) = W2 at *
  rintro e w3 ⟨hb3, rfl⟩
  have hI3 := hI.grow (bx.trans (hb3.mono bx.size))
  have hcv := run_str (P := Try.prog) w3 44 9 5 A c _ [2, 0, 1, 4] Try.underlying44 Try.underlying5 Try.underlying9 hI3 (by unfold Byte; decide)
  simp only [List.length_cons, List.length_nil] at hcv
  clear hI hI3
  go_wp2_with (go_at_call 18; refine (size_any 8 _ (by omega)).mono ?_; rintro e w' ⟨rfl, rfl⟩)
  all_goals go_ret
  exact ⟨rfl, bW.trans ((hb1.trans ((bx.trans (hb3.mono bx.size)).mono hb1.size)).mono bW.size)⟩
end Go.Proofs.Ytmgifmdpjlefcaa
