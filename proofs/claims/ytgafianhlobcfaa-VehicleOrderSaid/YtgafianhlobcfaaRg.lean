/-
  A vehicle is registered. Conditions: the lists are in memory; there is a limit for every class that the agency may have.
-/
import Derived.Test.YtgafianhlobcfaaPu
namespace Go.Proofs.Ytgafianhlobcfaa
open Go.ChangeShapes Go.WideShapes Go.RowKit
set_option linter.unusedVariables false

/-- The error of a registration. -/
def regE (V : List Ve) (cls : Int) (L : List Int) (v : Ve) : Int :=
  if validB V = false then 1 else if v.id < 0 ∨ v.id > 4294967295 then 8 else if v.cl < 0 ∨ v.cl > cls then 17 else if 0 ≤ idxF v.id V 0 then 11 else if at_ L v.cl.toNat ≤ cntF v.cl V then 14 else if 8 ≤ V.length then 10 else 0
theorem validB_len {V : List Ve} (h : validB V = true) : V.length ≤ 8 := by
  unfold validB at h
  simp at h
  exact h.2
theorem valid_c (A : Option Addr) (c : Nat) (V : List Ve) (w : World) (hs : Vs w w.heap.size A V) (hw : VeW V) (hl : V.length ≤ 9223372036854775807) {b : Bool} (hb : validB V = b) :
    Calls Try.prog 11 #[.slice A V.length c] w fun e w' => e = .returned (.bool b) ∧ Below w.heap.size w w' := by
  rw [← hb]; exact valid_any A c V w hs hw hl
theorem index_c (A : Option Addr) (c : Nat) (V : List Ve) (id : Int) (w : World) (hs : Vs w w.heap.size A V) (hl : V.length ≤ 9223372036854775807) {x : Int} (hx : idxF id V 0 = x) :
    Calls Try.prog 25 #[.slice A V.length c, .int .i64 id] w fun e w' => e = .returned (.int .i64 x) ∧ Below w.heap.size w w' := by
  rw [← hx]; exact index_any A c V id w hs hl
set_option maxRecDepth 20000 in
set_option maxHeartbeats 2000000 in
theorem register_any (A : Option Addr) (c : Nat) (V : List Ve) (v : Ve) (v0 v1 v4 v5 v6 v7 : Value) (cls : Int) (LA : Option Addr) (lc : Nat) (L : List Int) (w : World) (hs : Vs w w.heap.size A V) (hw : VeW V) (hl : V.length ≤ 9223372036854775807) (hlc : V.length ≤ c) (hcm : c ≤ 9223372036854775807)
    (hL : Ints .i64 w w.heap.size LA L) (hLl : L.length ≤ 9223372036854775807) (hcls : cls < L.length) (hvi : -9223372036854775808 ≤ v.id ∧ v.id ≤ 9223372036854775807) (hvc : -9223372036854775808 ≤ v.cl ∧ v.cl ≤ 9223372036854775807) :
    Calls Try.prog 17 #[.slice A V.length c, .agg #[v0, v1, .int .i64 cls, .slice LA L.length lc, v4, v5, v6, v7], .agg #[.int .i64 v.id, .int .i64 v.cl]] w fun e w' => ∃ s, e = .returned (.tuple #[s, .int .i64 (regE V cls L v)]) ∧ Below w.heap.size w w' ∧
      (regE V cls L v = 0 → ∃ g, s = .slice (some ⟨g, 0, none⟩) (V.length + 1) (V.length + 1) ∧ w.heap.size ≤ g ∧ Blk w' g 25 ((insV v V).flatMap Ve.cells).toArray) ∧ (regE V cls L v ≠ 0 → s = .slice none 0 0) := by
  have bX := lat_alloc (lat_alloc (Below.refl w.heap.size w) (.cells #[v0, v1, .int .i64 cls, .slice LA L.length lc, v4, v5, v6, v7] 29)) (.cells #[.int .i64 v.id, .int .i64 v.cl] 25)
  have B0 := Blk.alloc (Blk.new (w := w) (t := 29) (cs := #[v0, v1, .int .i64 cls, .slice LA L.length lc, v4, v5, v6, v7])) (.cells #[.int .i64 v.id, .int .i64 v.cl] 25)
  have B1 := Blk.new (w := w.alloc (.cells #[v0, v1, .int .i64 cls, .slice LA L.length lc, v4, v5, v6, v7] 29)) (t := 25) (cs := #[.int .i64 v.id, .int .i64 v.cl])
  rw [heap_size] at B1
  have hs0 := hs.grow bX
  have hL0 := hL.grow bX
  go_enter Try.func17, Try.ntmps17
  go_wp2_with fail
  generalize (w.alloc (.cells #[v0, v1, .int .i64 cls, .slice LA L.length lc, v4, v5, v6, v7] 29)).alloc (.cells #[.int .i64 v.id, .int .i64 v.cl] 25) = W at *
  generalize hvb : validB V = bv
  refine (valid_c A c V W hs0 hw hl hvb).mono ?_
  rintro e w1 ⟨rfl, hb1⟩
  have hbz := bX.trans (hb1.mono bX.size)
  have C0 := B0.below hb1
  have C1 := B1.below hb1
  have hs1 := hs0.grow hb1
  have hL1 := hL0.grow hb1
  cases bv with
  | false =>
    have HE : Hid (regE V cls L v = 1) := Lib.hid (by simp [regE, hvb])
    clear hvb
    go_wp2
    go_ret2
    exact ⟨_, (by rw [HE.out]; rfl), hbz, fun h => absurd h (by rw [HE.out]; omega), fun _ => rfl⟩
  | true =>
    have hl8 := validB_len hvb
    have HV := Lib.hid hvb
    clear hvb
    have p0 := C1.at 0 rfl
    have p1 := C1.at 1 rfl
    by_cases q1 : v.id < 0 ∨ v.id > 4294967295
    · have HE : Hid (regE V cls L v = 8) := Lib.hid (by simp [regE, HV.out]; omega)
      by_cases q2 : v.id < 0
      · have z : decide (v.id < 0) = true := by simpa using q2
        clear q1
        go_wp2
        go_ret2
        exact ⟨_, (by rw [HE.out]; rfl), hbz, fun h => absurd h (by rw [HE.out]; omega), fun _ => rfl⟩
      · have z : decide (v.id < 0) = false := by simpa using q2
        have z2 : decide (v.id > 4294967295) = true := by simp; omega
        clear q1
        go_wp2
        go_ret2
        exact ⟨_, (by rw [HE.out]; rfl), hbz, fun h => absurd h (by rw [HE.out]; omega), fun _ => rfl⟩
    · have i0 : ¬ v.id < 0 := fun h => q1 (.inl h)
      have i1 : ¬ v.id > 4294967295 := fun h => q1 (.inr h)
      have z : decide (v.id < 0) = false := by simpa using i0
      have z2 : decide (v.id > 4294967295) = false := by simpa using i1
      have Q1 := Lib.hid q1
      clear q1
      have r0 := C0.at 0 rfl
      have r1 := C0.at 1 rfl
      have r2 := C0.at 2 rfl
      have r3 := C0.at 3 rfl
      have r4 := C0.at 4 rfl
      have r5 := C0.at 5 rfl
      have r6 := C0.at 6 rfl
      have r7 := C0.at 7 rfl
      by_cases q2 : v.cl < 0 ∨ v.cl > cls
      · have HE : Hid (regE V cls L v = 17) := Lib.hid (by unfold regE; rw [if_neg (by rw [HV.out]; decide), if_neg Q1.out, if_pos q2])
        by_cases q3 : v.cl < 0
        · have z3 : decide (v.cl < 0) = true := by simpa using q3
          clear q2
          go_wp2
          go_ret2
          exact ⟨_, (by rw [HE.out]; rfl), hbz, fun h => absurd h (by rw [HE.out]; omega), fun _ => rfl⟩
        · have z3 : decide (v.cl < 0) = false := by simpa using q3
          have z4 : decide (v.cl > cls) = true := by simp; omega
          clear q2
          go_wp2
          go_ret2
          exact ⟨_, (by rw [HE.out]; rfl), hbz, fun h => absurd h (by rw [HE.out]; omega), fun _ => rfl⟩
      · have j0 : ¬ v.cl < 0 := fun h => q2 (.inl h)
        have j1 : ¬ v.cl > cls := fun h => q2 (.inr h)
        have z3 : decide (v.cl < 0) = false := by simpa using j0
        have z4 : decide (v.cl > cls) = false := by simpa using j1
        have Q2 := Lib.hid q2
        clear q2
        go_wp2_with fail
        generalize hix : idxF v.id V 0 = ix
        refine (index_c A c V v.id w1 hs1 hl hix).mono ?_
        rintro e w2 ⟨rfl, hb2⟩
        have hbz := hbz.trans (hb2.mono hbz.size)
        have D0 := C0.below hb2
        have D1 := C1.below hb2
        have hs2 := hs1.grow hb2
        have hL2 := hL1.grow hb2
        clear C0 C1 hs1 hL1 p0 p1 r0 r1 r2 r3 r4 r5 r6 r7
        by_cases q5 : 0 ≤ ix
        · have HE : Hid (regE V cls L v = 11) := Lib.hid (by unfold regE; rw [if_neg (by rw [HV.out]; decide), if_neg Q1.out, if_neg Q2.out, hix, if_pos q5])
          have z5 : decide (ix ≥ 0) = true := by simpa using q5
          clear hix
          go_wp2
          go_ret2
          exact ⟨_, (by rw [HE.out]; rfl), hbz, fun h => absurd h (by rw [HE.out]; omega), fun _ => rfl⟩
        · have z5 : decide (ix ≥ 0) = false := by simpa using q5
          have Q5 : Hid (¬ 0 ≤ idxF v.id V 0) := Lib.hid (by rw [hix]; exact q5)
          clear hix q5
          by_cases q6 : at_ L v.cl.toNat ≤ cntF v.cl V
          · have HE : Hid (regE V cls L v = 14) := Lib.hid (by unfold regE; rw [if_neg (by rw [HV.out]; decide), if_neg Q1.out, if_neg Q2.out, if_neg (by have := Q5.out; omega), if_pos q6])
            have z6 : decide (cntF v.cl V ≥ at_ L v.cl.toNat) = true := by simpa using q6
            clear q6
            go_wp2_with fail
            have o0 := D0.laterN 0 rfl
            have o1 := D0.laterN 1 rfl
            have o2 := D0.laterN 2 rfl
            have o3 := D0.laterN 3 rfl
            have o4 := D0.laterN 4 rfl
            have o5 := D0.laterN 5 rfl
            have o6 := D0.laterN 6 rfl
            have o7 := D0.laterN 7 rfl
            have p0 := D1.laterN 0 rfl
            have p1 := D1.laterN 1 rfl
            refine wp_region_grow (by kernel_rfl) (by kernel_rfl) ?_
            repeat' (first
                | go_big_quiet_skip
                | (go_big_quiet_want; first
                    | (go_big_quiet_op; go_big_quiet_on)
                    | (refine quiet_det ?_; apply Exists.intro; refine ⟨fun w' hC => ?_, ?_⟩; (go_simp <;> (first | rfl | exact ⟨rfl, rfl⟩)); apply Exists.intro; refine ⟨?_, ?_⟩; (go_simp <;> (first | rfl | exact ⟨rfl, rfl⟩)); go_big_quiet_on)
                    | (show Oper.quiet _ { dst := _, op := .call { callee := .value _, args := _, argTypes := _ }, type := _, pos := _, after := _, guard := _ } _ _ _; refine quiet_call ?_; apply Exists.intro; apply Exists.intro; refine ⟨fun w' hC => ?_, ?_⟩; (go_simp <;> (first | rfl | exact ⟨rfl, rfl⟩)); apply Exists.intro; refine ⟨fun w' hC => ?_, ?_⟩; (first
                        | with_reducible exact grow_call (count_any A c V v.cl w' (hs2.grow hC) hl) hC
                        | with_reducible exact grow_call (limit_any v0 v1 (.int .i64 cls) v4 v5 v6 v7 LA lc L v.cl w' (hL2.grow hC) hLl (by omega) (by omega)) hC
                        | fail); apply Exists.intro; refine ⟨?_, ?_⟩; (go_simp <;> (first | rfl | exact ⟨rfl, rfl⟩)); go_big_quiet_on)))
            all_goals refine wpQuiet_nil ?_
            intro w3 hw3
            clear o0 o1 o2 o3 o4 o5 o6 o7 p0 p1
            have hbz := hbz.trans (hw3.mono hbz.size)
            go_wp2
            go_ret2
            exact ⟨_, (by rw [HE.out]; rfl), hbz, fun h => absurd h (by rw [HE.out]; omega), fun _ => rfl⟩
          · have z6 : decide (cntF v.cl V ≥ at_ L v.cl.toNat) = false := by simpa using q6
            have Q6 := Lib.hid q6
            clear q6
            go_wp2_with fail
            have o0 := D0.laterN 0 rfl
            have o1 := D0.laterN 1 rfl
            have o2 := D0.laterN 2 rfl
            have o3 := D0.laterN 3 rfl
            have o4 := D0.laterN 4 rfl
            have o5 := D0.laterN 5 rfl
            have o6 := D0.laterN 6 rfl
            have o7 := D0.laterN 7 rfl
            have p0 := D1.laterN 0 rfl
            have p1 := D1.laterN 1 rfl
            refine wp_region_grow (by kernel_rfl) (by kernel_rfl) ?_
            repeat' (first
                | go_big_quiet_skip
                | (go_big_quiet_want; first
                    | (go_big_quiet_op; go_big_quiet_on)
                    | (refine quiet_det ?_; apply Exists.intro; refine ⟨fun w' hC => ?_, ?_⟩; (go_simp <;> (first | rfl | exact ⟨rfl, rfl⟩)); apply Exists.intro; refine ⟨?_, ?_⟩; (go_simp <;> (first | rfl | exact ⟨rfl, rfl⟩)); go_big_quiet_on)
                    | (show Oper.quiet _ { dst := _, op := .call { callee := .value _, args := _, argTypes := _ }, type := _, pos := _, after := _, guard := _ } _ _ _; refine quiet_call ?_; apply Exists.intro; apply Exists.intro; refine ⟨fun w' hC => ?_, ?_⟩; (go_simp <;> (first | rfl | exact ⟨rfl, rfl⟩)); apply Exists.intro; refine ⟨fun w' hC => ?_, ?_⟩; (first
                        | with_reducible exact grow_call (count_any A c V v.cl w' (hs2.grow hC) hl) hC
                        | with_reducible exact grow_call (limit_any v0 v1 (.int .i64 cls) v4 v5 v6 v7 LA lc L v.cl w' (hL2.grow hC) hLl (by omega) (by omega)) hC
                        | fail); apply Exists.intro; refine ⟨?_, ?_⟩; (go_simp <;> (first | rfl | exact ⟨rfl, rfl⟩)); go_big_quiet_on)))
            all_goals refine wpQuiet_nil ?_
            intro w3 hw3
            clear o0 o1 o2 o3 o4 o5 o6 o7 p0 p1
            have hbz := hbz.trans (hw3.mono hbz.size)
            have E1 := D1.below hw3
            have hs3 := hs2.grow hw3
            by_cases q7 : 8 ≤ V.length
            · have HE : Hid (regE V cls L v = 10) := Lib.hid (by unfold regE; rw [if_neg (by rw [HV.out]; decide), if_neg Q1.out, if_neg Q2.out, if_neg (by have := Q5.out; omega), if_neg (by have := Q6.out; omega), if_pos q7])
              go_wp2
              go_ret2
              exact ⟨_, (by rw [HE.out]; rfl), hbz, fun h => absurd h (by rw [HE.out]; omega), fun _ => rfl⟩
            · have HE : Hid (regE V cls L v = 0) := Lib.hid (by unfold regE; rw [if_neg (by rw [HV.out]; decide), if_neg Q1.out, if_neg Q2.out, if_neg (by have := Q5.out; omega), if_neg (by have := Q6.out; omega), if_neg q7])
              have p0 := E1.at 0 rfl
              have p1 := E1.at 1 rfl
              go_wp2_with fail
              refine (put_any A c V v w3 hs3 (by omega) hlc hcm).mono ?_
              rintro e w4 ⟨hb4, g, rfl, hg, hB⟩
              have hbz' := hbz.trans (hb4.mono hbz.size)
              have hgw : w.heap.size ≤ g := Nat.le_trans hbz.size hg
              go_wp2
              go_ret2
              exact ⟨_, (by rw [HE.out]; rfl), hbz', fun _ => ⟨g, rfl, hgw, hB⟩, fun h => absurd HE.out h⟩
end Go.Proofs.Ytgafianhlobcfaa
