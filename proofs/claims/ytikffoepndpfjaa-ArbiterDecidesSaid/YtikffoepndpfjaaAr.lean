/-
  A service is copied, ended, counted. Conditions: the list of ends is in memory and not empty.
-/
import Derived.Test.YtikffoepndpfjaaAc
import Derived.Test.YtikffoepndpfjaaSv
import Derived.Lib.SliceRun
namespace Go.Proofs.Ytikffoepndpfjaa
open Go.ChangeShapes Go.WideShapes Go.RowKit
set_option linter.unusedVariables false

theorem clone_ints (A : Option Addr) (n c : Nat) (E : List Int) (w : World) (hn : E.length = n) (hI : Ints .i64 w w.heap.size A E) (hp : 0 < n) (hl : n ≤ 1000000) :
    Calls Try.prog 34 #[.slice A n c] w fun e w' => ∃ v, e = .returned v ∧ Below w.heap.size w w' ∧ Own .i64 3 w' w.heap.size v E := by
  obtain ⟨b, off, rfl, hB, hc⟩ := hI (by omega)
  have own0 := own_new (k := .i64) (e := 3) (w := w) (base := w.heap.size) #[] [] rfl (Nat.le_refl _) (by simp)
  have bX := lat_alloc (Below.refl w.heap.size w) (.cells #[] 3)
  have hI1 := hI.grow bX
  have hsz := bX.size
  have q22 : ∀ (w : World) (a : Option Addr) (n c n' c' : Nat), (binOp .eql 22 (.slice a n c) (.slice none n' c')).run Try.prog w = .ok (.bool a.isNone) w := fun w a n c n' c' => Lib.run_eql_slice_nil w _ _ a n c n' c' Try.underlying22
  go_enter Try.func34, Try.ntmps34
  go_wp2_with (at_builtin; refine wpList_append_ints rfl (.tmp 5) (.tmp 6) _ rfl w.heap.size 3 .i64 8 Try.underlying22 int_info (.slice (some ⟨w.heap.size, 0, none⟩) 0 0) [] rfl own0 (some ⟨b, off, none⟩) c E n hn rfl hI1 (by simp; omega) (by omega) hsz ?_; intro v1 w1 own1 g1 a1; have b1 := bX.grown g1 hsz (fun k e => (own0.lt e).1))
  go_ret
  rw [List.nil_append] at own1
  exact ⟨_, rfl, b1, own1⟩
set_option maxHeartbeats 1000000 in
theorem clone_any (ph gr : Int) (A : Option Addr) (n c : Nat) (E : List Int) (w : World) (hn : E.length = n) (hI : Ints .i64 w w.heap.size A E) (hp : 0 < n) (hl : n ≤ 1000000) :
    Calls Try.prog 28 #[.agg #[.int .i64 ph, .int .i64 gr, .slice A n c]] w fun e w' => ∃ A' c', e = .returned (.agg #[.int .i64 ph, .int .i64 gr, .slice A' n c']) ∧ Below w.heap.size w w' ∧ Own .i64 3 w' w.heap.size (.slice A' n c') E := by
  have bX := lat_alloc (lat_alloc (Below.refl w.heap.size w) (.cells #[.int .i64 ph, .int .i64 gr, .slice A n c] 24)) (.cells #[.int .i64 0, .int .i64 0, .slice none 0 0] 24)
  have B0 := Blk.alloc (Blk.new (w := w) (t := 24) (cs := #[.int .i64 ph, .int .i64 gr, .slice A n c])) (.cells #[.int .i64 0, .int .i64 0, .slice none 0 0] 24)
  have B1 := Blk.new (w := w.alloc (.cells #[.int .i64 ph, .int .i64 gr, .slice A n c] 24)) (t := 24) (cs := #[.int .i64 0, .int .i64 0, .slice none 0 0])
  rw [heap_size] at B1
  have hIX := hI.grow bX
  go_enter Try.func28, Try.ntmps28
  go_wp2_with fail
  generalize (w.alloc (.cells #[.int .i64 ph, .int .i64 gr, .slice A n c] 24)).alloc (.cells #[.int .i64 0, .int .i64 0, .slice none 0 0] 24) = W at *
  refine (clone_ints A n c E W hn hIX hp hl).mono ?_
  rintro e w2 ⟨v, rfl, hb2, own⟩
  obtain ⟨A2, c2, rfl⟩ := own_len own hn
  have hltW := B1.lt
  have C0 := B0.below hb2
  have C1 := B1.below hb2
  have hlt := B1.lt
  obtain ⟨t0, t1, t2, f0, f1, f2⟩ := C0.three
  obtain ⟨u0, u1, u2, h0, h1, h2⟩ := C1.three
  go_wp2
  have D1 := Blk.far C1 (p := ⟨w.heap.size, 2, none⟩) (by simp) (.slice A2 n c2)
  refine bodyPost_ret (results_cell rfl rfl (load_service (Blk.set3 D1 _ _ _))) rfl ?_
  refine ⟨A2, c2, rfl, ?_, ?_⟩
  · have bz := bX.trans (hb2.mono bX.size)
    exact below_set3 (bz.setCell (p := ⟨w.heap.size, 2, none⟩) (Nat.le_refl _) _) (by omega) _ _ _
  · refine (own.block (fun b hb => ?_)).rebase (by omega)
    have hbl := (own.lt hb).1
    exact ((Below.heap_setCell _ _ _ _ (by show b ≠ w.heap.size + 1; omega)).trans ((Below.heap_setCell _ _ _ _ (by show b ≠ w.heap.size + 1; omega)).trans ((Below.heap_setCell _ _ _ _ (by show b ≠ w.heap.size + 1; omega)).trans (Below.heap_setCell _ _ _ _ (by show b ≠ w.heap.size; omega)))))
end Go.Proofs.Ytikffoepndpfjaa
