/-
  The sanity check of layer 3's laws. Conditions: none.
-/
import Derived.Test.YtahemaondkjpiaaFc
namespace Go.Proofs.Ytahemaondkjpiaa
open Go.ChangeShapes Go.WideShapes Go.RowKit
set_option linter.unusedVariables false

/-- Parse, its answer known. -/
theorem parse_known {A : Option Addr} {c : Nat} {l : List Int} {w : World} {n : Nat} {r1 r2 r4 : Int} {r3 : List Int} {r5 : Bool} (hn : l.length = n) (hr : par l = (r1, r2, r3, r4, r5)) (hs : Ints .u8 w w.heap.size A l) (hby : Byte l) (hc : n ≤ c) (hcm : c ≤ 9223372036854775807) :
    Calls Try.prog 17 #[.slice A n c] w fun e w' => Below w.heap.size w w' ∧ ∃ (P : Option Addr) (pc : Nat),
      e = .returned (.tuple #[.agg #[.int .i64 r1, .int .i64 r2, .slice P r3.length pc], .int .i64 r4, .bool r5]) ∧ Ints .u8 w' w'.heap.size P r3 := by
  subst hn
  have := parse_any A c l w hs hby hc hcm
  unfold ParseOut at this
  rw [hr] at this
  exact this
theorem awake_any (w : World) : Calls Try.prog 9 #[] w fun e w' => e = .returned (.bool true) ∧ Below w.heap.size w w' := by
  have hp : par (encL 9 []) = (0, 9, [], 10, true) := by
    have := enc_par (k := 9) (p := []) [] (by omega) (by omega) (by simp)
    simpa using this
  have HPAR := Lib.hid hp
  clear hp
  go_enter Try.func9, Try.ntmps9
  go_wp2_with fail
  refine (encode_any 9 none 0 [] w Ints.nil_ (fun n hn => by cases hn) (by simp)).mono ?_
  rintro e w1 ⟨hb1, h⟩
  rcases h with ⟨_, g, rfl, hg, hR⟩ | ⟨h, _⟩
  · have HI := Lib.hid hR.ints
    go_wp2_with fail
    refine (parse_known (r1 := 0) (r2 := 9) (r3 := []) (r4 := 10) (r5 := true) (l := encL 9 []) (by rw [enc_len]; rfl) HPAR.out HI.out (enc_byte (by omega) (by omega) (fun n hn => by cases hn) (by simp)) (by omega) (by omega)).mono ?_
    rintro e w2 ⟨hb2, P, pc, rfl, _⟩
    have b2 := hb1.trans (hb2.mono hb1.size)
    go_wp2_with fail
    have G := Blk.alloc (Blk.new (w := w2) (t := 36) (cs := #[.int .i64 0, .int .i64 9, .slice P 0 pc])) (.cells #[.int .u8 90] 5)
    have b3 := (b2.alloc b2.size (.cells #[.int .i64 0, .int .i64 9, .slice P 0 pc] 36)).alloc (b2.alloc b2.size (.cells #[.int .i64 0, .int .i64 9, .slice P 0 pc] 36)).size (.cells #[.int .u8 90] 5)
    have H9 : Ints .u8 ((w2.alloc (.cells #[.int .i64 0, .int .i64 9, .slice P 0 pc] 36)).alloc (.cells #[.int .u8 90] 5)) ((w2.alloc (.cells #[.int .i64 0, .int .i64 9, .slice P 0 pc] 36)).alloc (.cells #[.int .u8 90] 5)).heap.size (some ⟨w2.heap.size + 1, 0, none⟩) [90] := by
      have := ints_new (k := .u8) (w := w2.alloc (.cells #[.int .i64 0, .int .i64 9, .slice P 0 pc] 36)) (C := #[.int .u8 90]) (T := 5) (f := (0, 0)) (l := [90]) (fun i hi => by simp at hi; subst hi; rfl)
      rw [heap_size w2] at this
      exact this
    generalize (w2.alloc (.cells #[.int .i64 0, .int .i64 9, .slice P 0 pc] 36)).alloc (.cells #[.int .u8 90] 5) = W at *
    refine (parse_known (r1 := 0) (r2 := 0) (r3 := []) (r4 := 0) (r5 := false) (l := [90]) (n := 1) rfl par_one H9 (Byte.one (by omega) (by omega)) (by omega) (by omega)).mono ?_
    rintro e w4 ⟨hb4, P', pc', rfl, _⟩
    obtain ⟨t0, t1, t2, _, _, _⟩ := ((Blk.below G hb4).alloc (.cells #[.int .i64 0, .int .i64 0, .slice P' 0 pc'] 36)).three
    have b4 := b3.trans (hb4.mono b3.size)
    go_wp2
    go_ret
    exact ⟨rfl, b4.alloc b4.size _⟩
  · exact absurd h (by decide)
end Go.Proofs.Ytahemaondkjpiaa
