/-
  Both sides of Parse agree. Conditions: none.
-/
import Derived.Test.YtahemaondkjpiaaRp
import Derived.Test.YtahemaondkjpiaaSm
namespace Go.Proofs.Ytahemaondkjpiaa
open Go.ChangeShapes Go.WideShapes Go.RowKit
set_option linter.unusedVariables false

theorem par_byte {l : List Int} (h : Byte l) : Byte (par l).2.2.1 := by
  unfold par
  split
  · exact fun n hn => by cases hn
  split
  · exact fun n hn => by cases hn
  split
  · exact fun n hn => by cases hn
  split
  · exact fun n hn => by cases hn
  split
  · exact fun n hn => by cases hn
  show Byte (jud (l.take _)).2.2.1
  unfold jud
  split
  · exact fun n hn => by cases hn
  split
  · exact fun n hn => by cases hn
  split
  · exact fun n hn => by cases hn
  exact ((h.take _).drop _).take _
set_option maxHeartbeats 2000000 in
theorem same_any (A : Option Addr) (c : Nat) (l : List Int) (w : World) (hs : Ints .u8 w w.heap.size A l) (hby : Byte l) (hc : l.length ≤ c) (hcm : c ≤ 9223372036854775807) :
    Calls Try.prog 15 #[.slice A l.length c] w fun e w' => e = .returned (.bool true) ∧ Below w.heap.size w w' := by
  go_enter Try.func15, Try.ntmps15
  go_wp2_with fail
  refine (parse_any A c l w hs hby hc hcm).mono ?_
  unfold ParseOut
  rintro e w1 ⟨hb1, P, pc, rfl, hP⟩
  go_wp2_with fail
  have b1 := (hb1.alloc hb1.size (.cells #[.int .i64 (par l).1, .int .i64 (par l).2.1, .slice P (par l).2.2.1.length pc] 36))
  have B1 := Blk.new (w := w1) (t := 36) (cs := #[.int .i64 (par l).1, .int .i64 (par l).2.1, .slice P (par l).2.2.1.length pc])
  have P1 := hP.grow (lat_alloc (Below.refl _ _) (.cells #[.int .i64 (par l).1, .int .i64 (par l).2.1, .slice P (par l).2.2.1.length pc] 36))
  have hpb := par_byte hby
  generalize w1.alloc (.cells #[.int .i64 (par l).1, .int .i64 (par l).2.1, .slice P (par l).2.2.1.length pc] 36) = W1 at *
  refine (rparse_any A c l W1 ((hs.below b1).more b1.size) hby hc hcm).mono ?_
  unfold ParseOut
  rintro e w2 ⟨hb2, P', pc', rfl, hP'⟩
  have b2 := b1.trans (hb2.mono b1.size)
  have B2 := B1.below hb2
  have P2 := P1.grow hb2
  generalize par l = X at *
  obtain ⟨code, kind, pl, n, ok⟩ := X
  have r2 := B2.three
  have r3 := (B2.alloc (.cells #[.int .i64 code, .int .i64 kind, .slice P' pl.length pc'] 36)).three
  go_wp2_with fail
  have b3 := ((b2.alloc b2.size (.cells #[.int .i64 code, .int .i64 kind, .slice P' pl.length pc'] 36)).alloc (b2.alloc b2.size (.cells #[.int .i64 code, .int .i64 kind, .slice P' pl.length pc'] 36)).size (.cells #[.int .i64 code, .int .i64 kind, .slice P pl.length pc] 36)).alloc ((b2.alloc b2.size (.cells #[.int .i64 code, .int .i64 kind, .slice P' pl.length pc'] 36)).alloc (b2.alloc b2.size (.cells #[.int .i64 code, .int .i64 kind, .slice P' pl.length pc'] 36)).size (.cells #[.int .i64 code, .int .i64 kind, .slice P pl.length pc] 36)).size (.cells #[.int .i64 code, .int .i64 kind, .slice P' pl.length pc'] 36)
  have L3 : Below w2.heap.size w2 (((w2.alloc (.cells #[.int .i64 code, .int .i64 kind, .slice P' pl.length pc'] 36)).alloc (.cells #[.int .i64 code, .int .i64 kind, .slice P pl.length pc] 36)).alloc (.cells #[.int .i64 code, .int .i64 kind, .slice P' pl.length pc'] 36)) := ((lat_alloc (Below.refl _ _) (.cells #[.int .i64 code, .int .i64 kind, .slice P' pl.length pc'] 36)).alloc (lat_alloc (Below.refl _ _) (.cells #[.int .i64 code, .int .i64 kind, .slice P' pl.length pc'] 36)).size (.cells #[.int .i64 code, .int .i64 kind, .slice P pl.length pc] 36)).alloc ((lat_alloc (Below.refl _ _) (.cells #[.int .i64 code, .int .i64 kind, .slice P' pl.length pc'] 36)).alloc (lat_alloc (Below.refl _ _) (.cells #[.int .i64 code, .int .i64 kind, .slice P' pl.length pc'] 36)).size (.cells #[.int .i64 code, .int .i64 kind, .slice P pl.length pc] 36)).size (.cells #[.int .i64 code, .int .i64 kind, .slice P' pl.length pc'] 36)
  have hA := (Blk.new (w := w2.alloc (.cells #[.int .i64 code, .int .i64 kind, .slice P' pl.length pc'] 36)) (t := 36) (cs := #[.int .i64 code, .int .i64 kind, .slice P pl.length pc])).alloc (.cells #[.int .i64 code, .int .i64 kind, .slice P' pl.length pc'] 36)
  have hB := Blk.new (w := (w2.alloc (.cells #[.int .i64 code, .int .i64 kind, .slice P' pl.length pc'] 36)).alloc (.cells #[.int .i64 code, .int .i64 kind, .slice P pl.length pc] 36)) (t := 36) (cs := #[.int .i64 code, .int .i64 kind, .slice P' pl.length pc'])
  rw [heap_size] at hA
  rw [heap_size, heap_size] at hB
  have P3 := P2.grow L3
  have P3' := hP'.grow L3
  generalize ((w2.alloc (.cells #[.int .i64 code, .int .i64 kind, .slice P' pl.length pc'] 36)).alloc (.cells #[.int .i64 code, .int .i64 kind, .slice P pl.length pc] 36)).alloc (.cells #[.int .i64 code, .int .i64 kind, .slice P' pl.length pc'] 36) = W3 at *
  refine (same_one _ _ _ _ _ code kind P P' pl W3 rfl hA hB P3 P3' hpb).mono ?_
  rintro e w4 ⟨rfl, hb4⟩
  go_wp2
  go_ret
  exact ⟨rfl, b3.trans (hb4.mono b3.size)⟩
end Go.Proofs.Ytahemaondkjpiaa
