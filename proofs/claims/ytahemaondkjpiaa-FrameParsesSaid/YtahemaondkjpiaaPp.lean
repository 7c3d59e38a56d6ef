/-
  Parse of layer 3, whole. Conditions: none.
-/
import Derived.Test.YtahemaondkjpiaaPa
import Derived.BigQuiet
import Derived.Deep.QuietTactic
namespace Go.Proofs.Ytahemaondkjpiaa
open Go.ChangeShapes Go.WideShapes Go.RowKit
set_option linter.unusedVariables false

/-- What bytes begin with: code, kind, payload, bytes used, and whether it is decided. -/
def par (l : List Int) : Int × Int × List Int × Int × Bool :=
  if l.length = 0 then (0, 0, [], 0, false)
  else if at_ l 0 ≠ 90 ∨ (1 < l.length ∧ at_ l 1 ≠ 165) then (2, 0, [], 1, true)
  else if l.length < 6 then (0, 0, [], 0, false)
  else if 200 < at_ l 4 * 256 + at_ l 5 then (7, 0, [], 1, true)
  else if (l.length : Int) < at_ l 4 * 256 + at_ l 5 + 10 then (0, 0, [], 0, false)
  else ((jud (l.take (at_ l 4 * 256 + at_ l 5 + 10).toNat)).1, (jud (l.take (at_ l 4 * 256 + at_ l 5 + 10).toNat)).2.1, (jud (l.take (at_ l 4 * 256 + at_ l 5 + 10).toNat)).2.2.1, (jud (l.take (at_ l 4 * 256 + at_ l 5 + 10).toNat)).2.2.2, true)
/-- What Parse gives. -/
def ParseOut (l : List Int) (w : World) (e : Ending) (w' : World) : Prop := Below w.heap.size w w' ∧ ∃ (P : Option Addr) (pc : Nat),
  e = .returned (.tuple #[.agg #[.int .i64 (par l).1, .int .i64 (par l).2.1, .slice P (par l).2.2.1.length pc], .int .i64 (par l).2.2.2.1, .bool (par l).2.2.2.2]) ∧ Ints .u8 w' w'.heap.size P (par l).2.2.1
set_option maxRecDepth 20000 in
set_option maxHeartbeats 1000000 in
theorem parse_any (A : Option Addr) (c : Nat) (l : List Int) (w : World) (hs : Ints .u8 w w.heap.size A l) (hby : Byte l) (hc : l.length ≤ c) (hcm : c ≤ 9223372036854775807) :
    Calls Try.prog 17 #[.slice A l.length c] w (ParseOut l w) := by
  have R := Blk.new (w := w) (t := 36) (cs := #[.int .i64 0, .int .i64 0, .slice none 0 0])
  have bW := lat_alloc (Below.refl w.heap.size w) (.cells #[.int .i64 0, .int .i64 0, .slice none 0 0] 36)
  have hW := (hs.below bW).more bW.size
  have hg : w.heap.size ≤ w.heap.size := Nat.le_refl _
  go_enter Try.func17, Try.ntmps17
  by_cases h0 : l.length = 0
  · have z0 : ((l.length : Int) == 0) = true := by simp [h0]
    have hj := Lib.hid (show par l = (0, 0, [], 0, false) by rw [par, if_pos h0])
    go_wp2
    (try simp only [Exit.inBlock, Exit.then]); refine bodyPost_ret (results_cell_tmp2 rfl rfl (load_item Blk.new)) rfl ?_
    unfold ParseOut
    rw [hj.out]
    exact ⟨lat_alloc (Below.refl _ _) _, none, 0, rfl, Ints.nil_⟩
  have z0 : ((l.length : Int) == 0) = false := by simp; intro h; subst h; exact h0 rfl
  obtain ⟨b, off, rfl, hB, hcell⟩ := hs (by omega)
  have k0 : w.cell? ⟨b, off, none⟩ = some (.int .u8 (at_ l 0)) := hcell 0 (by omega)
  have x0 := hby _ (at_mem (show 0 < l.length by omega))
  by_cases h1 : at_ l 0 = 90
  · by_cases h2 : 1 < l.length
    · have k1 := hcell 1 (by omega)
      have x1 := hby _ (at_mem (show 1 < l.length by omega))
      by_cases h3 : at_ l 1 = 165
      · by_cases h6 : l.length < 6
        · have hj := Lib.hid (show par l = (0, 0, [], 0, false) by rw [par, if_neg h0, if_neg (by omega), if_pos h6])
          go_wp2
          (try simp only [Exit.inBlock, Exit.then]); refine bodyPost_ret (results_cell_tmp2 rfl rfl (load_item Blk.new)) rfl ?_
          unfold ParseOut
          rw [hj.out]
          exact ⟨lat_alloc (Below.refl _ _) _, none, 0, rfl, Ints.nil_⟩
        · have k4 := hcell 4 (by omega)
          have k5 := hcell 5 (by omega)
          have x4 := hby _ (at_mem (show 4 < l.length by omega))
          have x5 := hby _ (at_mem (show 5 < l.length by omega))
          by_cases h7 : 200 < at_ l 4 * 256 + at_ l 5
          · have hj := Lib.hid (show par l = (7, 0, [], 1, true) by rw [par, if_neg h0, if_neg (by omega), if_neg h6, if_pos h7])
            go_wp2_with fail
            have k4' := ((bcell bW).1 b (off + 4) hB).trans k4
            have k5' := ((bcell bW).1 b (off + 5) hB).trans k5
            generalize w.alloc (.cells #[.int .i64 0, .int .i64 0, .slice none 0 0] 36) = W at *
            go_quiet (fail)
            have RD := fun n => Blk.below R (below_drewN (n := n) (Below.refl _ _))
            have bD := fun n => below_drewN (n := n) bW
            have r7 := fun n => (RD n).three
            have HRD := Lib.hid RD
            have HBD := Lib.hid bD
            clear RD bD
            go_wp2
            (try simp only [Exit.inBlock, Exit.then]); refine bodyPost_ret (results_cell_tmp2 rfl rfl (load_item (Blk.set3 (HRD.out _) _ _ _))) rfl ?_
            unfold ParseOut
            rw [hj.out]
            exact ⟨below_set3 (HBD.out _) hg _ _ _, none, 0, rfl, Ints.nil_⟩
          · have hj := Lib.hid (show (l.length : Int) < at_ l 4 * 256 + at_ l 5 + 10 → par l = (0, 0, [], 0, false) from fun h => by rw [par, if_neg h0, if_neg (by omega), if_neg h6, if_neg h7, if_pos h])
            have hj2 := Lib.hid (show ¬ (l.length : Int) < at_ l 4 * 256 + at_ l 5 + 10 → par l = _ from fun h => by rw [par, if_neg h0, if_neg (by omega), if_neg h6, if_neg h7, if_neg h])
            go_wp2_with fail
            have k4' := ((bcell bW).1 b (off + 4) hB).trans k4
            have k5' := ((bcell bW).1 b (off + 5) hB).trans k5
            generalize w.alloc (.cells #[.int .i64 0, .int .i64 0, .slice none 0 0] 36) = W at *
            go_quiet (fail)
            have RD := fun n => Blk.below R (below_drewN (n := n) (Below.refl _ _))
            have bD := fun n => below_drewN (n := n) bW

            have r7 := fun n => (RD n).three
            have HRD := Lib.hid RD
            have HBD := Lib.hid bD
            clear RD bD
            have hsz : sizeF (at_ l 4 * 256 + at_ l 5) = at_ l 4 * 256 + at_ l 5 + 10 := by rw [sizeF, if_neg (by omega)]
            have HSZ := Lib.hid hsz
            clear hsz
            go_wp2_with fail
            refine (fsize_any _ _).mono ?_; rw [HSZ.out]; rintro e w' ⟨rfl, hw'⟩; subst hw'
            by_cases h8 : (l.length : Int) < at_ l 4 * 256 + at_ l 5 + 10
            · have hj3 := Lib.hid (hj.out h8)
              go_wp2
              (try simp only [Exit.inBlock, Exit.then]); refine bodyPost_ret (results_cell_tmp2 rfl rfl (load_item (Blk.set3 (HRD.out _) _ _ _))) rfl ?_
              unfold ParseOut
              rw [hj3.out]
              exact ⟨below_set3 (HBD.out _) hg _ _ _, none, 0, rfl, Ints.nil_⟩
            · have hj3 := Lib.hid (hj2.out (by omega))
              go_wp2_with fail
              refine (fsize_any _ _).mono ?_; rw [HSZ.out]; rintro e w' ⟨rfl, hw'⟩; subst hw'
              go_wp2_with fail
              obtain ⟨N, hN⟩ : ∃ N, (at_ l 4 * 256 + at_ l 5 + 10).toNat = N := ⟨_, rfl⟩
              have n10 : 10 ≤ N := by omega
              have n210 : N ≤ 210 := by omega
              have nl : N ≤ l.length := by omega
              rw [hN] at hj3 ⊢
              have hlt : (l.take N).length = N := by rw [List.length_take]; omega
              have hIW : Ints .u8 (W.drewN nq) (W.drewN nq).heap.size (some ⟨b, off, none⟩) (l.take N) := ((hW.below (below_drewN (n := nq) (Below.refl _ _))).more (Nat.le_refl _)).take N
              have HJ := judge_any (some ⟨b, off, none⟩) c (l.take N) (W.drewN nq) hIW (hby.take N) (by omega) (by omega) (by omega) hcm
              rw [hlt] at HJ
              refine HJ.mono ?_
              clear HJ
              rintro e w3 ⟨hb3, P, pc, rfl, hP3, hPn⟩
              have R3 := Blk.below (HRD.out nq) hb3
              have b3 := (HBD.out nq).trans (hb3.mono (HBD.out nq).size)
              have hwl : w.heap.size < (W.drewN nq).heap.size := R.lt
              have hfar : ∀ a, P = some a → w.heap.size ≠ a.block := fun a ha => by have := hPn a ha; omega
              have s7 := R3.three
              generalize jud (l.take N) = J at *
              obtain ⟨J1, J2, J3, J4⟩ := J
              obtain ⟨t0, t1, t2, tf0, tf1, tf2⟩ := s7
              clear r7 HSZ hlt hIW hB hcell
              go_wp2
              (try simp only [Exit.inBlock, Exit.then]); refine bodyPost_ret (results_cell_tmp2 rfl rfl (load_item (Blk.set3 R3 _ _ _))) rfl ?_
              unfold ParseOut
              rw [hj3.out]
              exact ⟨below_set3 b3 hg _ _ _, P, pc, rfl, by simpa [World.setCell] using ((hP3.far (p := ⟨w.heap.size, 0, none⟩) hfar (.int .i64 J1)).far (p := ⟨w.heap.size, 1, none⟩) hfar (.int .i64 J2)).far (p := ⟨w.heap.size, 2, none⟩) hfar (.slice P J3.length pc)⟩
      · have q3 : (at_ l 1 == 165) = false := by simpa using h3
        have hj := Lib.hid (show par l = (2, 0, [], 1, true) by rw [par, if_neg h0, if_pos (.inr ⟨h2, h3⟩)])
        go_wp2
        (try simp only [Exit.inBlock, Exit.then]); refine bodyPost_ret (results_cell_tmp2 rfl rfl (load_item Blk.new)) rfl ?_
        unfold ParseOut
        rw [hj.out]
        exact ⟨lat_alloc (Below.refl _ _) _, none, 0, rfl, Ints.nil_⟩
    · have hj := Lib.hid (show par l = (0, 0, [], 0, false) by rw [par, if_neg h0, if_neg (by omega), if_pos (by omega)])
      go_wp2
      (try simp only [Exit.inBlock, Exit.then]); refine bodyPost_ret (results_cell_tmp2 rfl rfl (load_item Blk.new)) rfl ?_
      unfold ParseOut
      rw [hj.out]
      exact ⟨lat_alloc (Below.refl _ _) _, none, 0, rfl, Ints.nil_⟩
  · have q1 : (at_ l 0 == 90) = false := by simpa using h1
    have hj := Lib.hid (show par l = (2, 0, [], 1, true) by rw [par, if_neg h0, if_pos (.inl h1)])
    go_wp2
    (try simp only [Exit.inBlock, Exit.then]); refine bodyPost_ret (results_cell_tmp2 rfl rfl (load_item Blk.new)) rfl ?_
    unfold ParseOut
    rw [hj.out]
    exact ⟨lat_alloc (Below.refl _ _) _, none, 0, rfl, Ints.nil_⟩
end Go.Proofs.Ytahemaondkjpiaa
