/-
  The groups of a junction, the phases of a ring in a group. Conditions: groups that can be counted.
-/
import Derived.Test.YtngdaieopnadbaaPl
namespace Go.Proofs.Ytngdaieopnadbaa
open Go.ChangeShapes Go.WideShapes Go.RowKit
set_option linter.unusedVariables false

theorem groups_bd {P : List Ph} (h : ∀ i, i < P.length → 0 ≤ (phAt P i).gr ∧ (phAt P i).gr ≤ 3) : ∀ k, k ≤ P.length → 0 ≤ groupsI P k ∧ groupsI P k ≤ 4
  | 0, _ => by simp [groupsI]
  | k + 1, hk => by
    have h1 := groups_bd h k (by omega)
    have h2 := h k (by omega)
    rw [groupsI]; split <;> omega
set_option maxHeartbeats 1000000 in
theorem groups_any (A B : Option Addr) (c d : Nat) (P : List Ph) (C : List Int) (st : Int) (w : World) (hP : Phs w w.heap.size A P) (hl : P.length ≤ 60) (hg : ∀ i, i < P.length → 0 ≤ (phAt P i).gr ∧ (phAt P i).gr ≤ 3) :
    Calls Try.prog 15 #[.agg #[.slice A P.length c, .slice B C.length d, .int .i64 st]] w fun e w' => e = .returned (.int .i64 (groupsI P P.length)) ∧ Below w.heap.size w w' := by
  have bW := lat_alloc (Below.refl w.heap.size w) (.cells #[.slice A P.length c, .slice B C.length d, .int .i64 st] 25)
  have BJ := Blk.new (w := w) (t := 25) (cs := #[.slice A P.length c, .slice B C.length d, .int .i64 st])
  have j0 := BJ.at 0 rfl
  clear BJ
  go_enter Try.func15, Try.ntmps15
  go_wp2_with fail
  have hP1 := hP.grow bW
  generalize (w.alloc (.cells #[.slice A P.length c, .slice B C.length d, .int .i64 st] 25)) = W at *
  clear j0
  go_loopw [3, 9] (fun s3 v wr => ∃ i : Nat, i ≤ P.length ∧ s3 = .int .i64 (groupsI P i) ∧ v = .int .i64 i ∧ Below W.heap.size W wr) (fun _ v _ => P.length - (intOf v).toNat)
  case atStart => exact ⟨0, by omega, rfl, rfl, Below.refl _ _⟩
  case round =>
    obtain ⟨i, hi, rfl, rfl, hbr⟩ := hrel
    by_cases hlt : i < P.length
    · have hltZ : (i : Int) < P.length := by omega
      have hPr := (hP1.grow hbr)
      obtain ⟨b, off, rfl, hbB, hph⟩ := hPr.at hlt
      obtain ⟨x0, x1, x2, x3, x4, x5, x6, x7⟩ := hph
      have hgi := hg i hlt
      have hgb := groups_bd hg i (by omega)
      have hgs := Lib.hid (show groupsI P (i + 1) = if groupsI P i < (phAt P i).gr + 1 then (phAt P i).gr + 1 else groupsI P i by rw [groupsI])
      have B5 := Blk.new (w := wr) (t := 51) (cs := #[.int .i64 (phAt P i).ri, .int .i64 (phAt P i).gr, .int .i64 (phAt P i).mn, .int .i64 (phAt P i).mx, .int .i64 (phAt P i).yl, .int .i64 (phAt P i).rd, .int .i64 (phAt P i).wk, .int .i64 (phAt P i).cl])
      have k1 := B5.at 1 rfl
      clear B5
      generalize phAt P i = p at *
      generalize groupsI P i = G at *
      have bX := lat_alloc hbr (.cells #[.int .i64 p.ri, .int .i64 p.gr, .int .i64 p.mn, .int .i64 p.mx, .int .i64 p.yl, .int .i64 p.rd, .int .i64 p.wk, .int .i64 p.cl] 51)
      by_cases hm : G < p.gr + 1
      · have zz : max G (p.gr + 1) = p.gr + 1 := by omega
        go_wp2
        go_roundw
        case rel => exact ⟨i + 1, hlt, by rw [hgs.out, if_pos hm], by go_num, bX⟩
        case measure => simp [intOf]; omega
      · have zz : max G (p.gr + 1) = G := by omega
        go_wp2
        go_roundw
        case rel => exact ⟨i + 1, hlt, by rw [hgs.out, if_neg hm], by go_num, bX⟩
        case measure => simp [intOf]; omega
    · have hltZ : ¬ (i : Int) < P.length := by omega
      have he : i = P.length := by omega
      subst he
      go_wp2
      go_ret
      exact ⟨rfl, bW.trans (hbr.mono bW.size)⟩
end Go.Proofs.Ytngdaieopnadbaa
