/-
  The sanity check of layer 20's laws. Conditions: none.
-/
import Derived.Test.YtdgmfledhcgncaaRe
namespace Go.Proofs.Ytdgmfledhcgncaa
open Go.ChangeShapes Go.WideShapes Go.RowKit
set_option linter.unusedVariables false

theorem level_of {v : Int} (now : Int) (A : Option Addr) (w : World) (hs : Ints .i64 w w.heap.size A [-1]) (hnow : 0 ≤ now ∧ now ≤ 10000) (hv : levelV 10 5 [-1] 0 1 0 now = v) :
    Calls Try.prog 14 #[.agg #[.slice none 0 0, .slice none 0 0, .int .i64 10, .int .i64 5, .int .i64 1, .int .i64 0], .agg #[.int .i64 (-1), .int .i64 0, .slice A 1 1], .agg #[.int .i64 0, .int .i64 0, .int .i64 0, .int .i64 1, .int .i64 0], .int .i64 now] w fun e w' => e = .returned (.int .i64 v) ∧ Below w.heap.size w w' := by
  rw [← hv]
  exact level_any 10 5 1 0 (-1) 0 A 1 1 [-1] 0 0 0 1 0 now w rfl hs (by omega) (fun x hx => by rw [List.mem_singleton] at hx; subst hx; omega) (by omega) (by omega) (by omega) (by omega) (by omega) (by omega) hnow
theorem awake_any (w : World) : Calls Try.prog 22 #[] w fun e w' => e = .returned (.bool true) ∧ Below w.heap.size w w' := by
  go_enter Try.func22, Try.ntmps22
  go_wp2_with fail
  have bW := lat_alloc (lat_alloc (lat_alloc (lat_alloc (Below.refl w.heap.size w) (.cells #[.int .i64 (-1)] 3)) (.cells #[.slice none 0 0, .slice none 0 0, .int .i64 10, .int .i64 5, .int .i64 1, .int .i64 0] 27)) (.cells #[.int .i64 (-1), .int .i64 0, .slice (some ⟨w.heap.size, 0, none⟩) 1 1] 29)) (.cells #[.int .i64 0, .int .i64 0, .int .i64 0, .int .i64 1, .int .i64 0] 34)
  have I0 := (((ints_new (k := .i64) (w := w) (C := #[.int .i64 (-1)]) (T := 3) (f := (0, 0)) (l := [-1]) (fun i hi => by simp at hi; subst hi; rfl)).grow (lat_alloc (Below.refl _ _) (.cells #[.slice none 0 0, .slice none 0 0, .int .i64 10, .int .i64 5, .int .i64 1, .int .i64 0] 27))).grow (lat_alloc (Below.refl _ _) (.cells #[.int .i64 (-1), .int .i64 0, .slice (some ⟨w.heap.size, 0, none⟩) 1 1] 29))).grow (lat_alloc (Below.refl _ _) (.cells #[.int .i64 0, .int .i64 0, .int .i64 0, .int .i64 1, .int .i64 0] 34))
  have B1 := Blk.alloc (Blk.alloc (Blk.new (w := w.alloc (.cells #[.int .i64 (-1)] 3)) (t := 27) (cs := #[.slice none 0 0, .slice none 0 0, .int .i64 10, .int .i64 5, .int .i64 1, .int .i64 0])) (.cells #[.int .i64 (-1), .int .i64 0, .slice (some ⟨w.heap.size, 0, none⟩) 1 1] 29)) (.cells #[.int .i64 0, .int .i64 0, .int .i64 0, .int .i64 1, .int .i64 0] 34)
  have B2 := Blk.alloc (Blk.new (w := (w.alloc (.cells #[.int .i64 (-1)] 3)).alloc (.cells #[.slice none 0 0, .slice none 0 0, .int .i64 10, .int .i64 5, .int .i64 1, .int .i64 0] 27)) (t := 29) (cs := #[.int .i64 (-1), .int .i64 0, .slice (some ⟨w.heap.size, 0, none⟩) 1 1])) (.cells #[.int .i64 0, .int .i64 0, .int .i64 0, .int .i64 1, .int .i64 0] 34)
  have B3 := Blk.new (w := ((w.alloc (.cells #[.int .i64 (-1)] 3)).alloc (.cells #[.slice none 0 0, .slice none 0 0, .int .i64 10, .int .i64 5, .int .i64 1, .int .i64 0] 27)).alloc (.cells #[.int .i64 (-1), .int .i64 0, .slice (some ⟨w.heap.size, 0, none⟩) 1 1] 29)) (t := 34) (cs := #[.int .i64 0, .int .i64 0, .int .i64 0, .int .i64 1, .int .i64 0])
  rw [heap_size] at B1
  rw [heap_size, heap_size] at B2
  rw [heap_size, heap_size, heap_size] at B3
  generalize (((w.alloc (.cells #[.int .i64 (-1)] 3)).alloc (.cells #[.slice none 0 0, .slice none 0 0, .int .i64 10, .int .i64 5, .int .i64 1, .int .i64 0] 27)).alloc (.cells #[.int .i64 (-1), .int .i64 0, .slice (some ⟨w.heap.size, 0, none⟩) 1 1] 29)).alloc (.cells #[.int .i64 0, .int .i64 0, .int .i64 0, .int .i64 1, .int .i64 0] 34) = W at *
  refine (level_of (v := 1) 9 _ _ I0 (by omega) (by decide)).mono ?_
  rintro e w1 ⟨rfl, hb1⟩
  have C1 := B1.below hb1
  have C2 := B2.below hb1
  have C3 := B3.below hb1
  have o0 := C1.at 0 rfl
  have o1 := C1.at 1 rfl
  have o2 := C1.at 2 rfl
  have o3 := C1.at 3 rfl
  have o4 := C1.at 4 rfl
  have o5 := C1.at 5 rfl
  have p0 := C2.at 0 rfl
  have p1 := C2.at 1 rfl
  have p2 := C2.at 2 rfl
  have q0 := C3.at 0 rfl
  have q1 := C3.at 1 rfl
  have q2 := C3.at 2 rfl
  have q3 := C3.at 3 rfl
  have q4 := C3.at 4 rfl
  go_wp2_with fail
  refine (level_of (v := 2) 10 _ _ (I0.grow hb1) (by omega) (by decide)).mono ?_
  rintro e w2 ⟨rfl, hb2⟩
  have hb12 := hb1.trans (hb2.mono hb1.size)
  clear o0 o1 o2 o3 o4 o5 p0 p1 p2 q0 q1 q2 q3 q4
  have D1 := C1.below hb2
  have D2 := C2.below hb2
  have D3 := C3.below hb2
  have o0 := D1.at 0 rfl
  have o1 := D1.at 1 rfl
  have o2 := D1.at 2 rfl
  have o3 := D1.at 3 rfl
  have o4 := D1.at 4 rfl
  have o5 := D1.at 5 rfl
  have p0 := D2.at 0 rfl
  have p1 := D2.at 1 rfl
  have p2 := D2.at 2 rfl
  have q0 := D3.at 0 rfl
  have q1 := D3.at 1 rfl
  have q2 := D3.at 2 rfl
  have q3 := D3.at 3 rfl
  have q4 := D3.at 4 rfl
  go_wp2_with fail
  refine (level_of (v := 5) 99 _ _ (I0.grow hb12) (by omega) (by decide)).mono ?_
  rintro e w3 ⟨rfl, hb3⟩
  have hb13 := hb12.trans (hb3.mono hb12.size)
  go_wp2_with fail
  refine (em_of (b := true) (by decide) _ _ _ _ _).mono ?_
  rintro e w4 ⟨rfl, hb4⟩
  have hb14 := hb13.trans (hb4.mono hb13.size)
  go_wp2
  go_ret
  exact ⟨rfl, bW.trans (hb14.mono bW.size)⟩
end Go.Proofs.Ytdgmfledhcgncaa
