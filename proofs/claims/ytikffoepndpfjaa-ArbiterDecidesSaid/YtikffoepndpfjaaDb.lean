/-
  Equal services are the same; which services are valid, on both sides. Conditions: lists in memory.
-/
import Derived.Test.YtikffoepndpfjaaDa
namespace Go.Proofs.Ytikffoepndpfjaa
open Go.ChangeShapes Go.WideShapes Go.RowKit
set_option linter.unusedVariables false

theorem drop_atE {E : List Int} {i : Nat} (h : i < E.length) : E.drop i = at_ E i :: E.drop (i + 1) := by
  rw [List.drop_eq_getElem_cons h]; simp [at_, h]
def okE (x : Int) : Bool := decide (-1 ≤ x) && decide (x ≤ 1073741824)
/-- A service is valid. -/
def svB (ph gr : Int) (n : Nat) (E : List Int) (m : Int) : Bool := E.all okE && (decide ((n : Int) = m) && (decide (-1 ≤ ph) && (decide (ph < m) && (decide (0 ≤ gr) && (decide (gr ≤ 60) && (decide (ph ≠ -1) || decide (gr = 0)))))))
set_option maxRecDepth 20000 in
set_option maxHeartbeats 2000000 in
theorem rsame_any (ph gr : Int) (A A' : Option Addr) (n c c' : Nat) (E : List Int) (w : World) (hn : E.length = n) (hI : Ints .i64 w w.heap.size A E) (hI' : Ints .i64 w w.heap.size A' E) (hl : n ≤ 1000000) :
    Calls Try.prog 16 #[.agg #[.int .i64 ph, .int .i64 gr, .slice A n c], .agg #[.int .i64 ph, .int .i64 gr, .slice A' n c']] w fun e w' => e = .returned (.bool true) ∧ Below w.heap.size w w' := by
  have bX := lat_alloc (lat_alloc (Below.refl w.heap.size w) (.cells #[.int .i64 ph, .int .i64 gr, .slice A n c] 24)) (.cells #[.int .i64 ph, .int .i64 gr, .slice A' n c'] 24)
  have B0 := Blk.alloc (Blk.new (w := w) (t := 24) (cs := #[.int .i64 ph, .int .i64 gr, .slice A n c])) (.cells #[.int .i64 ph, .int .i64 gr, .slice A' n c'] 24)
  have B1 := Blk.new (w := w.alloc (.cells #[.int .i64 ph, .int .i64 gr, .slice A n c] 24)) (t := 24) (cs := #[.int .i64 ph, .int .i64 gr, .slice A' n c'])
  rw [heap_size] at B1
  have hI0 := hI.grow bX
  have hI1 := hI'.grow bX
  have HN := Lib.hid hn
  clear hn
  have o0 := B0.at 0 rfl
  have o1 := B0.at 1 rfl
  have o2 := B0.at 2 rfl
  have p0 := B1.at 0 rfl
  have p1 := B1.at 1 rfl
  have p2 := B1.at 2 rfl
  go_enter Try.func16, Try.ntmps16
  go_wp2_with fail
  clear o0 o1 o2 p0 p1 p2
  generalize ((w.alloc (.cells #[.int .i64 ph, .int .i64 gr, .slice A n c] 24)).alloc (.cells #[.int .i64 ph, .int .i64 gr, .slice A' n c'] 24)) = W at *
  go_loopw [31] (fun i wr => ∃ k : Nat, k ≤ n ∧ i = .int .i64 k ∧ W = wr) (fun i _ => n - (intOf i).toNat)
  case atStart => exact ⟨0, by omega, rfl, rfl⟩
  case round =>
    obtain ⟨k, hk, rfl, hW⟩ := hrel
    subst hW
    have o0 := B0.at 0 rfl
    have o1 := B0.at 1 rfl
    have o2 := B0.at 2 rfl
    have p0 := B1.at 0 rfl
    have p1 := B1.at 1 rfl
    have p2 := B1.at 2 rfl
    by_cases hlt : k < n
    · have hlt' : (k : Int) < n := by omega
      have hkE : k < E.length := by rw [HN.out]; exact hlt
      obtain ⟨b, off, rfl, hB, hc⟩ := hI0.sub hkE
      obtain ⟨b', off', rfl, hB', hc'⟩ := hI1.sub hkE
      generalize at_ E k = x at *
      go_wp2
      go_roundw
      case rel => exact ⟨k + 1, by omega, by go_num, trivial⟩
      case measure => simp [intOf]; omega
    · go_wp2
      go_ret
      exact ⟨rfl, bX⟩
set_option maxRecDepth 20000 in
set_option maxHeartbeats 4000000 in
theorem valid_any (ph gr : Int) (A : Option Addr) (n c : Nat) (E : List Int) (m : Int) (w : World) (hn : E.length = n) (hI : Ints .i64 w w.heap.size A E) (hl : n ≤ 1000000) :
    Calls Try.prog 14 #[.agg #[.int .i64 ph, .int .i64 gr, .slice A n c], .int .i64 m] w fun e w' => e = .returned (.bool (svB ph gr n E m)) ∧ Below w.heap.size w w' := by
  have bX := lat_alloc (Below.refl w.heap.size w) (.cells #[.int .i64 ph, .int .i64 gr, .slice A n c] 24)
  have B0 := Blk.new (w := w) (t := 24) (cs := #[.int .i64 ph, .int .i64 gr, .slice A n c])
  have hIX := hI.grow bX
  go_enter Try.func14, Try.ntmps14
  go_wp2_with fail
  generalize w.alloc (.cells #[.int .i64 ph, .int .i64 gr, .slice A n c] 24) = W at *
  have HN := Lib.hid hn
  clear hn
  go_loopw [10] (fun i wr => ∃ k : Nat, k ≤ n ∧ i = .int .i64 k ∧ W = wr ∧ Hid (E.all okE = (E.drop k).all okE)) (fun i _ => n - (intOf i).toNat)
  case atStart => exact ⟨0, by omega, rfl, rfl, Lib.hid rfl⟩
  case round =>
    obtain ⟨k, hk, rfl, hW, HV⟩ := hrel
    subst hW
    have o0 := B0.at 0 rfl
    have o1 := B0.at 1 rfl
    have o2 := B0.at 2 rfl
    by_cases hlt : k < n
    · have hlt' : (k : Int) < n := by omega
      have hkE : k < E.length := by rw [HN.out]; exact hlt
      obtain ⟨b, off, rfl, hB, hc⟩ := hIX.sub hkE
      have HD := Lib.hid (drop_atE hkE)
      generalize at_ E k = x at *
      by_cases q1 : x < -1
      · have z1 : decide (x < -1) = true := by simpa using q1
        have HF : Hid (svB ph gr n E m = false) := Lib.hid (by
          have : E.all okE = false := by rw [HV.out, HD.out, List.all_cons]; simp [okE]; omega
          unfold svB; rw [this]; rfl)
        clear q1
        go_wp2
        go_ret
        exact ⟨ret_b HF.out.symm, bX⟩
      · have z1 : decide (x < -1) = false := by simpa using q1
        by_cases q2 : x > 1073741824
        · have z2 : decide (x > 1073741824) = true := by simpa using q2
          have HF : Hid (svB ph gr n E m = false) := Lib.hid (by
            have : E.all okE = false := by rw [HV.out, HD.out, List.all_cons]; simp [okE]; omega
            unfold svB; rw [this]; rfl)
          clear q1 q2
          go_wp2
          go_ret
          exact ⟨ret_b HF.out.symm, bX⟩
        · have z2 : decide (x > 1073741824) = false := by simpa using q2
          have HX : Hid (okE x = true) := Lib.hid (by simp [okE]; omega)
          clear q1 q2
          go_wp2
          go_roundw
          case rel => exact ⟨k + 1, by omega, by go_num, trivial, Lib.hid (by rw [HV.out, HD.out, List.all_cons, HX.out, Bool.true_and])⟩
          case measure => simp [intOf]; omega
    · have HA : Hid (E.all okE = true) := Lib.hid (by rw [HV.out, List.drop_eq_nil_of_le (by have := HN.out; omega)]; rfl)
      by_cases q0 : (n : Int) = m
      · have z0 : ((n : Int) == m) = true := by simpa using q0
        have HQ0 := Lib.hid q0
        clear q0
        by_cases q1 : -1 ≤ ph
        · have z1 : decide (-1 ≤ ph) = true := by simpa using q1
          have HQ1 := Lib.hid q1
          clear q1
          by_cases q2 : ph < m
          · have z2 : decide (ph < m) = true := by simpa using q2
            have HQ2 := Lib.hid q2
            clear q2
            by_cases q3 : 0 ≤ gr
            · have z3 : decide (0 ≤ gr) = true := by simpa using q3
              have HQ3 := Lib.hid q3
              clear q3
              by_cases q4 : gr ≤ 60
              · have z4 : decide (gr ≤ 60) = true := by simpa using q4
                have HQ4 := Lib.hid q4
                clear q4
                have HS : Hid (svB ph gr n E m = (decide (ph ≠ -1) || decide (gr = 0))) := Lib.hid (by unfold svB; rw [HA.out]; simp [HQ0.out, HQ1.out, HQ2.out, HQ3.out, HQ4.out])
                by_cases q6 : ph = -1
                · have z6 : (ph != -1) = false := by simpa using q6
                  by_cases q7 : gr = 0
                  · have z7 : (gr == 0) = true := by simpa using q7
                    have HF : Hid (svB ph gr n E m = true) := Lib.hid (by rw [HS.out]; simp [q6, q7])
                    clear q6 q7
                    go_wp2
                    go_ret
                    exact ⟨ret_b HF.out.symm, bX⟩
                  · have z7 : (gr == 0) = false := by simpa using q7
                    have HF : Hid (svB ph gr n E m = false) := Lib.hid (by rw [HS.out]; simp [q6, q7])
                    clear q6 q7
                    go_wp2
                    go_ret
                    exact ⟨ret_b HF.out.symm, bX⟩
                · have z6 : (ph != -1) = true := by simpa using q6
                  have HF : Hid (svB ph gr n E m = true) := Lib.hid (by rw [HS.out]; simp [q6])
                  clear q6
                  go_wp2
                  go_ret
                  exact ⟨ret_b HF.out.symm, bX⟩
              · have z4 : decide (gr ≤ 60) = false := by simpa using q4
                have HF : Hid (svB ph gr n E m = false) := Lib.hid (by unfold svB; simp [q4])
                clear q4
                go_wp2
                go_ret
                exact ⟨ret_b HF.out.symm, bX⟩
            · have z3 : decide (0 ≤ gr) = false := by simpa using q3
              have HF : Hid (svB ph gr n E m = false) := Lib.hid (by unfold svB; simp [q3])
              clear q3
              go_wp2
              go_ret
              exact ⟨ret_b HF.out.symm, bX⟩
          · have z2 : decide (ph < m) = false := by simpa using q2
            have HF : Hid (svB ph gr n E m = false) := Lib.hid (by unfold svB; simp [q2])
            clear q2
            go_wp2
            go_ret
            exact ⟨ret_b HF.out.symm, bX⟩
        · have z1 : decide (-1 ≤ ph) = false := by simpa using q1
          have HF : Hid (svB ph gr n E m = false) := Lib.hid (by unfold svB; simp [q1])
          clear q1
          go_wp2
          go_ret
          exact ⟨ret_b HF.out.symm, bX⟩
      · have z0 : ((n : Int) == m) = false := by simpa using q0
        have HF : Hid (svB ph gr n E m = false) := Lib.hid (by unfold svB; simp [q0])
        clear q0
        go_wp2
        go_ret
        exact ⟨ret_b HF.out.symm, bX⟩
set_option maxRecDepth 20000 in
set_option maxHeartbeats 4000000 in
theorem rvalid_any (ph gr : Int) (A : Option Addr) (n c : Nat) (E : List Int) (m : Int) (w : World) (hn : E.length = n) (hI : Ints .i64 w w.heap.size A E) (hl : n ≤ 1000000) :
    Calls Try.prog 15 #[.agg #[.int .i64 ph, .int .i64 gr, .slice A n c], .int .i64 m] w fun e w' => e = .returned (.bool (svB ph gr n E m)) ∧ Below w.heap.size w w' := by
  have bX := lat_alloc (Below.refl w.heap.size w) (.cells #[.int .i64 ph, .int .i64 gr, .slice A n c] 24)
  have B0 := Blk.new (w := w) (t := 24) (cs := #[.int .i64 ph, .int .i64 gr, .slice A n c])
  have hIX := hI.grow bX
  go_enter Try.func15, Try.ntmps15
  go_wp2_with fail
  generalize w.alloc (.cells #[.int .i64 ph, .int .i64 gr, .slice A n c] 24) = W at *
  have HN := Lib.hid hn
  clear hn
  go_loopw [10] (fun i wr => ∃ k : Nat, k ≤ n ∧ i = .int .i64 k ∧ W = wr ∧ Hid (E.all okE = (E.drop k).all okE)) (fun i _ => n - (intOf i).toNat)
  case atStart => exact ⟨0, by omega, rfl, rfl, Lib.hid rfl⟩
  case round =>
    obtain ⟨k, hk, rfl, hW, HV⟩ := hrel
    subst hW
    have o0 := B0.at 0 rfl
    have o1 := B0.at 1 rfl
    have o2 := B0.at 2 rfl
    by_cases hlt : k < n
    · have hlt' : (k : Int) < n := by omega
      have hkE : k < E.length := by rw [HN.out]; exact hlt
      obtain ⟨b, off, rfl, hB, hc⟩ := hIX.sub hkE
      have HD := Lib.hid (drop_atE hkE)
      generalize at_ E k = x at *
      by_cases q1 : x < -1
      · have z1 : decide (x < -1) = true := by simpa using q1
        have HF : Hid (svB ph gr n E m = false) := Lib.hid (by
          have : E.all okE = false := by rw [HV.out, HD.out, List.all_cons]; simp [okE]; omega
          unfold svB; rw [this]; rfl)
        clear q1
        go_wp2
        go_ret
        exact ⟨ret_b HF.out.symm, bX⟩
      · have z1 : decide (x < -1) = false := by simpa using q1
        by_cases q2 : x > 1073741824
        · have z2 : decide (x > 1073741824) = true := by simpa using q2
          have HF : Hid (svB ph gr n E m = false) := Lib.hid (by
            have : E.all okE = false := by rw [HV.out, HD.out, List.all_cons]; simp [okE]; omega
            unfold svB; rw [this]; rfl)
          clear q1 q2
          go_wp2
          go_ret
          exact ⟨ret_b HF.out.symm, bX⟩
        · have z2 : decide (x > 1073741824) = false := by simpa using q2
          have HX : Hid (okE x = true) := Lib.hid (by simp [okE]; omega)
          clear q1 q2
          go_wp2
          go_roundw
          case rel => exact ⟨k + 1, by omega, by go_num, trivial, Lib.hid (by rw [HV.out, HD.out, List.all_cons, HX.out, Bool.true_and])⟩
          case measure => simp [intOf]; omega
    · have HA : Hid (E.all okE = true) := Lib.hid (by rw [HV.out, List.drop_eq_nil_of_le (by have := HN.out; omega)]; rfl)
      by_cases q0 : (n : Int) = m
      · have z0 : ((n : Int) == m) = true := by simpa using q0
        have HQ0 := Lib.hid q0
        clear q0
        by_cases q1 : -1 ≤ ph
        · have z1 : decide (ph ≥ -1) = true := by simpa using q1
          have HQ1 := Lib.hid q1
          clear q1
          by_cases q2 : ph < m
          · have z2 : decide (ph < m) = true := by simpa using q2
            have HQ2 := Lib.hid q2
            clear q2
            by_cases q3 : 0 ≤ gr
            · have z3 : decide (gr ≥ 0) = true := by simpa using q3
              have HQ3 := Lib.hid q3
              clear q3
              by_cases q4 : gr ≤ 60
              · have z4 : decide (gr ≤ 60) = true := by simpa using q4
                have HQ4 := Lib.hid q4
                clear q4
                have HS : Hid (svB ph gr n E m = (decide (ph ≠ -1) || decide (gr = 0))) := Lib.hid (by unfold svB; rw [HA.out]; simp [HQ0.out, HQ1.out, HQ2.out, HQ3.out, HQ4.out])
                by_cases q6 : ph = -1
                · have z6 : decide (ph ≥ 0) = false := by simp; have := HQ1.out; omega
                  by_cases q7 : gr = 0
                  · have z7 : (gr == 0) = true := by simpa using q7
                    have HF : Hid (svB ph gr n E m = true) := Lib.hid (by rw [HS.out]; simp [q6, q7])
                    clear q6 q7
                    go_wp2
                    go_ret
                    exact ⟨ret_b HF.out.symm, bX⟩
                  · have z7 : (gr == 0) = false := by simpa using q7
                    have HF : Hid (svB ph gr n E m = false) := Lib.hid (by rw [HS.out]; simp [q6, q7])
                    clear q6 q7
                    go_wp2
                    go_ret
                    exact ⟨ret_b HF.out.symm, bX⟩
                · have z6 : decide (ph ≥ 0) = true := by simp; have := HQ1.out; omega
                  have HF : Hid (svB ph gr n E m = true) := Lib.hid (by rw [HS.out]; simp [q6])
                  clear q6
                  go_wp2
                  go_ret
                  exact ⟨ret_b HF.out.symm, bX⟩
              · have z4 : decide (gr ≤ 60) = false := by simpa using q4
                have HF : Hid (svB ph gr n E m = false) := Lib.hid (by unfold svB; simp [q4])
                clear q4
                go_wp2
                go_ret
                exact ⟨ret_b HF.out.symm, bX⟩
            · have z3 : decide (gr ≥ 0) = false := by simpa using q3
              have HF : Hid (svB ph gr n E m = false) := Lib.hid (by unfold svB; simp [q3])
              clear q3
              go_wp2
              go_ret
              exact ⟨ret_b HF.out.symm, bX⟩
          · have z2 : decide (ph < m) = false := by simpa using q2
            have HF : Hid (svB ph gr n E m = false) := Lib.hid (by unfold svB; simp [q2])
            clear q2
            go_wp2
            go_ret
            exact ⟨ret_b HF.out.symm, bX⟩
        · have z1 : decide (ph ≥ -1) = false := by simpa using q1
          have HF : Hid (svB ph gr n E m = false) := Lib.hid (by unfold svB; simp [q1])
          clear q1
          go_wp2
          go_ret
          exact ⟨ret_b HF.out.symm, bX⟩
      · have z0 : ((n : Int) == m) = false := by simpa using q0
        have HF : Hid (svB ph gr n E m = false) := Lib.hid (by unfold svB; simp [q0])
        clear q0
        go_wp2
        go_ret
        exact ⟨ret_b HF.out.symm, bX⟩
end Go.Proofs.Ytikffoepndpfjaa
