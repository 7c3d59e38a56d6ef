/-
  Find, and the other side's comparison of lists. Conditions: the lists are in memory.
-/
import Derived.Test.YtgafianhlobcfaaLm
namespace Go.Proofs.Ytgafianhlobcfaa
open Go.ChangeShapes Go.WideShapes Go.RowKit
set_option linter.unusedVariables false

theorem results_cell2' {P : Program} {w : World} {fn : Func} {t : TypeId} {a x : Tmp} {A : Addr} {V : Value} {tmps : Array Value} (h : fn.results = #[.cell a t, .tmp x]) (ha : tmps.getD a undef = .pointer (some A)) (hl : (loadVar t A).run P w = .ok V w) :
    (results fn tmps).run P w = .ok (.tuple #[V, tmps.getD x undef]) w := by
  rw [Array.getD_eq_getD_getElem?] at ha
  simp [results, h, ha, asAddr, hl]
theorem load_ve {w : World} {g : Nat} {a b : Value} (H : Blk w g 25 #[a, b]) : (loadVar 25 ⟨g, 0, none⟩).run Try.prog w = .ok (.agg #[a, b]) w := by
  have c0 := Blk.cell H 0
  have c1 := Blk.cell H 1
  go_simp
theorem Blk.set2_ {w : World} {g : Nat} {t : TypeId} {a b : Value} (h : Blk w g t #[a, b]) (a' b' : Value) : Blk ((w.setCell ⟨g, 0, none⟩ a').setCell ⟨g, 1, none⟩ b') g t #[a', b'] := (h.set_ 0 a').set_ 1 b'
/-- What Find answers. -/
def findV (V : List Ve) (id : Int) : Ve := if idxF id V 0 < 0 then ⟨0, 0⟩ else veAt V (idxF id V 0).toNat
set_option maxHeartbeats 1000000 in
theorem find_any (A : Option Addr) (c : Nat) (V : List Ve) (id : Int) (w : World) (hs : Vs w w.heap.size A V) (hl : V.length ≤ 9223372036854775807) :
    Calls Try.prog 13 #[.slice A V.length c, .int .i64 id] w fun e w' => e = .returned (.tuple #[.agg #[.int .i64 (findV V id).id, .int .i64 (findV V id).cl], .bool (decide (0 ≤ idxF id V 0))]) ∧ Below w.heap.size w w' := by
  have bX := lat_alloc (Below.refl w.heap.size w) (.cells #[.int .i64 0, .int .i64 0] 25)
  have B0 := Blk.new (w := w) (t := 25) (cs := #[.int .i64 0, .int .i64 0])
  have hs0 := hs.grow bX
  have hbd := idxF_bd id V 0
  go_enter Try.func13, Try.ntmps13
  go_wp2_with fail
  generalize w.alloc (.cells #[.int .i64 0, .int .i64 0] 25) = W at *
  generalize hix : idxF id V 0 = ix at hbd
  refine (index_c A c V id W hs0 hl hix).mono ?_
  rintro e w2 ⟨rfl, hb2⟩
  have B2 := B0.below hb2
  have hs2 := hs0.grow hb2
  have bY := bX.trans (hb2.mono bX.size)
  have f0 := B2.frozen 0
  have f1 := B2.frozen 1
  have o0 := B2.at 0 rfl
  have o1 := B2.at 1 rfl
  by_cases q : ix < 0
  · have z : decide (ix < 0) = true := by simpa using q
    have HF : Hid (findV V id = ⟨0, 0⟩ ∧ decide (0 ≤ idxF id V 0) = false) := Lib.hid ⟨by unfold findV; rw [hix, if_pos q], by rw [hix]; simp; omega⟩
    clear hix
    go_wp2
    refine bodyPost_ret (results_cell2' rfl rfl (load_ve (B2.set2_ _ _))) rfl ?_
    refine ⟨?_, (bY.setCell (p := ⟨w.heap.size, 0, none⟩) (Nat.le_refl _) _).setCell (p := ⟨w.heap.size, 1, none⟩) (Nat.le_refl _) _⟩
    rw [HF.out.1, HF.out.2]
    rfl
  · obtain ⟨k, rfl⟩ := Int.eq_ofNat_of_zero_le (show 0 ≤ ix by omega)
    have hk : k < V.length := by omega
    have HF : Hid (findV V id = veAt V k ∧ decide (0 ≤ idxF id V 0) = true) := Lib.hid ⟨by unfold findV; rw [hix, if_neg q]; rfl, by rw [hix]; simp⟩
    clear hix hbd q
    obtain ⟨b, off, rfl, hB, h0, h1⟩ := hs2.at hk
    generalize veAt V k = x at *
    go_wp2
    refine bodyPost_ret (results_cell2' rfl rfl (load_ve (B2.set2_ _ _))) rfl ?_
    refine ⟨?_, (bY.setCell (p := ⟨w.heap.size, 0, none⟩) (Nat.le_refl _) _).setCell (p := ⟨w.heap.size, 1, none⟩) (Nat.le_refl _) _⟩
    rw [HF.out.1, HF.out.2]
    rfl
/-- The other side's comparison answers true for one and the same list. -/
theorem same_any (A A' : Option Addr) (c c' : Nat) (V : List Ve) (w : World) (hs : Vs w w.heap.size A V) (hs' : Vs w w.heap.size A' V) (hl : V.length ≤ 9223372036854775807) :
    Calls Try.prog 21 #[.slice A V.length c, .slice A' V.length c'] w fun e w' => e = .returned (.bool true) ∧ Below w.heap.size w w' := by
  go_enter Try.func21, Try.ntmps21
  go_wp2
  go_loopw [14] (fun i wr => ∃ k : Nat, k ≤ V.length ∧ i = .int .i64 k ∧ Below w.heap.size w wr) (fun i _ => V.length - (intOf i).toNat)
  case atStart => exact ⟨0, by omega, rfl, Below.refl _ _⟩
  case round =>
    obtain ⟨k, hk, rfl, hbr⟩ := hrel
    by_cases hlt : k < V.length
    · have hlt' : (k : Int) < V.length := by omega
      obtain ⟨b, off, rfl, hB, h0, h1⟩ := (hs.grow hbr).at hlt
      obtain ⟨b', off', rfl, hB', hy⟩ := (hs'.grow hbr).at hlt
      generalize veAt V k = x at *
      have bX := lat_alloc (Below.refl wr.heap.size wr) (.cells #[.int .i64 x.id, .int .i64 x.cl] 25)
      have BX := Blk.new (w := wr) (t := 25) (cs := #[.int .i64 x.id, .int .i64 x.cl])
      have hy' := hy.below bX hB'
      have hbX := hbr.trans (bX.mono hbr.size)
      have hB2 : b' < (wr.alloc (.cells #[.int .i64 x.id, .int .i64 x.cl] 25)).heap.size := by rw [heap_size]; omega
      go_wp2_with fail
      generalize wr.alloc (.cells #[.int .i64 x.id, .int .i64 x.cl] 25) = W at *
      obtain ⟨y0, y1⟩ := hy'.later hB2
      have o0 := BX.laterN 0 rfl
      have o1 := BX.laterN 1 rfl
      refine wp_region_grow (by kernel_rfl) (by kernel_rfl) ?_
      repeat' (first
          | go_big_quiet_skip
          | (go_big_quiet_want; first
              | (go_big_quiet_op; go_big_quiet_on)
              | (refine quiet_det ?_; apply Exists.intro; refine ⟨fun w' hC => ?_, ?_⟩; (go_simp <;> (first | rfl | exact ⟨rfl, rfl⟩)); apply Exists.intro; refine ⟨?_, ?_⟩; (go_simp <;> (first | rfl | exact ⟨rfl, rfl⟩)); go_big_quiet_on)
              | (show Oper.quiet _ { dst := _, op := .call { callee := .value _, args := _, argTypes := _ }, type := _, pos := _, after := _, guard := _ } _ _ _; refine quiet_call ?_; apply Exists.intro; apply Exists.intro; refine ⟨fun w' hC => ?_, ?_⟩; (go_simp <;> (first | rfl | exact ⟨rfl, rfl⟩)); apply Exists.intro; refine ⟨fun w' hC => ?_, ?_⟩; (first

                  | fail); apply Exists.intro; refine ⟨?_, ?_⟩; (go_simp <;> (first | rfl | exact ⟨rfl, rfl⟩)); go_big_quiet_on)))
      all_goals refine wpQuiet_nil ?_
      intro w2 hb2
      clear y0 y1 o0 o1
      go_wp2
      go_roundw
      case rel => exact ⟨k + 1, by omega, by go_num, hbX.trans (hb2.mono hbX.size)⟩
      case measure => simp [intOf]; omega
    · go_wp2
      go_ret
      exact ⟨rfl, hbr⟩
end Go.Proofs.Ytgafianhlobcfaa
