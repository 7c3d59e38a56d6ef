/-
  The order of claims: starts, levels, locks. Conditions: the numbers are small.
-/
import Derived.Test.YtikffoepndpfjaaDk
import Derived.Test.YtikffoepndpfjaaR
import Derived.BigQuiet
import Derived.Outline
namespace Go.Proofs.Ytikffoepndpfjaa
open Go.ChangeShapes Go.WideShapes Go.RowKit
set_option linter.unusedVariables false

/-- When the last service of a phase ended. -/
def endV (l : List Int) (p : Int) : Int := if p < 0 ∨ (l.length : Int) ≤ p then -1 else at_ l p.toNat
def startV (l : List Int) (ph si : Int) : Int := max si (endV l ph)
def emB (cl : Int) : Bool := decide (cl = 2) || decide (cl = 3)
def levelV (per cap : Int) (l : List Int) (ph cl si now : Int) : Int := min cap (cl + (now - startV l ph si) / per)
def lockB (lock : Int) (l : List Int) (ph cl now : Int) : Bool := !emB cl && (!decide (endV l ph = -1) && decide (now - endV l ph ≤ lock))
/-- Every tick of the list is small. -/
def Small (l : List Int) : Prop := ∀ n ∈ l, -1 ≤ n ∧ n ≤ 10000
theorem endV_bd {l : List Int} (h : Small l) (p : Int) : -1 ≤ endV l p ∧ endV l p ≤ 10000 := by
  unfold endV
  split
  · omega
  · exact h _ (at_mem (by omega))
theorem startV_bd {l : List Int} (h : Small l) (p : Int) {si : Int} (h0 : 0 ≤ si) (h1 : si ≤ 10000) : 0 ≤ startV l p si ∧ startV l p si ≤ 10000 := by
  have := endV_bd h p
  unfold startV; omega
theorem Blk.two_ {w : World} {g : Nat} {t : TypeId} {a b c : Value} (h : Blk w g t #[a, b, c]) : w.cell? ⟨g, 2, none⟩ = some c := h.cell 2
theorem Ints.sub {k : IntKind} {w : World} {B : Nat} {A : Option Addr} {l : List Int} (h : Ints k w B A l) {i : Nat} (hi : i < l.length) : ∃ b off, A = some ⟨b, off, none⟩ ∧ b < B ∧ w.cell? ⟨b, off + i, none⟩ = some (.int k (at_ l i)) := by
  obtain ⟨b, off, hA, hB, hc⟩ := h (by omega)
  exact ⟨b, off, hA, hB, hc i hi⟩
theorem ret_i {k : IntKind} {a b : Int} (h : a = b) : Ending.returned (.int k a) = .returned (.int k b) := by rw [h]
theorem ret_b {a b : Bool} (h : a = b) : Ending.returned (.bool a) = .returned (.bool b) := by rw [h]
theorem Blk.laterN {W : World} {g : Nat} {t : TypeId} {cs : Array Value} (h : Blk W g t cs) (i : Nat) {v : Value} (hv : cs[i]? = some v) : ∀ w', Below W.heap.size W w' → w'.cell? ⟨g, i, none⟩ = some v := fun w' hb => ((h.below hb).cell i).trans hv
set_option maxHeartbeats 400000 in
theorem ended_any (sp sg : Int) (A : Option Addr) (c n : Nat) (l : List Int) (p : Int) (w : World) (hn : l.length = n) (hs : Ints .i64 w w.heap.size A l) (hl : n ≤ 1000000) (h0 : -9223372036854775808 ≤ p) (h1 : p ≤ 9223372036854775807) :
    Calls Try.prog 43 #[.agg #[.int .i64 sp, .int .i64 sg, .slice A n c], .int .i64 p] w fun e w' => e = .returned (.int .i64 (endV l p)) ∧ Below w.heap.size w w' := by
  subst hn
  have bW := lat_alloc (Below.refl w.heap.size w) (.cells #[.int .i64 sp, .int .i64 sg, .slice A l.length c] 24)
  have r1 := (Blk.new (w := w) (t := 24) (cs := #[.int .i64 sp, .int .i64 sg, .slice A l.length c])).three
  have hI := hs.below bW
  go_enter Try.func43, Try.ntmps43
  by_cases hp : p < 0
  · have H := Lib.hid (show endV l p = -1 by rw [endV, if_pos (.inl hp)])
    go_wp2
    go_ret
    exact ⟨by rw [H.out]; rfl, bW⟩
  · obtain ⟨q, rfl⟩ := Int.eq_ofNat_of_zero_le (show 0 ≤ p by omega)
    by_cases hq : l.length ≤ q
    · have H := Lib.hid (show endV l q = -1 by rw [endV, if_pos (.inr (by omega))])
      go_wp2
      go_ret
      exact ⟨by rw [H.out]; rfl, bW⟩
    · have H := Lib.hid (show endV l q = at_ l q by rw [endV, if_neg (by omega)]; rfl)
      obtain ⟨b, off, rfl, hB, hc⟩ := hI.sub (i := q) (by omega)
      go_wp2
      go_ret
      exact ⟨by rw [H.out]; rfl, bW⟩
theorem em_any (ag id ph cl si : Int) (w : World) : Calls Try.prog 27 #[.agg #[.int .i64 ag, .int .i64 id, .int .i64 ph, .int .i64 cl, .int .i64 si]] w fun e w' => e = .returned (.bool (emB cl)) ∧ Below w.heap.size w w' := by
  have bW := lat_alloc (Below.refl w.heap.size w) (.cells #[.int .i64 ag, .int .i64 id, .int .i64 ph, .int .i64 cl, .int .i64 si] 47)
  have B := Blk.new (w := w) (t := 47) (cs := #[.int .i64 ag, .int .i64 id, .int .i64 ph, .int .i64 cl, .int .i64 si])
  have c3 := B.cell 3
  go_enter Try.func27, Try.ntmps27
  by_cases h2 : cl = 2
  · have e2 : (cl == 2) = true := by simpa using h2
    have H := Lib.hid (show emB cl = true by simp [emB, h2])
    clear h2
    go_wp2
    go_ret
    exact ⟨by rw [H.out]; rfl, bW⟩
  · have e2 : (cl == 2) = false := by simpa using h2
    by_cases h3 : cl = 3
    · have e3 : (cl == 3) = true := by simpa using h3
      have H := Lib.hid (show emB cl = true by simp [emB, h3])
      clear h2 h3
      go_wp2
      go_ret
      exact ⟨by rw [H.out]; rfl, bW⟩
    · have e3 : (cl == 3) = false := by simpa using h3
      have H := Lib.hid (show emB cl = false by simp [emB, h2, h3])
      clear h2 h3
      go_wp2
      go_ret
      exact ⟨by rw [H.out]; rfl, bW⟩
set_option maxHeartbeats 1000000 in
theorem start_any (sp sg : Int) (A : Option Addr) (c n : Nat) (l : List Int) (ag id ph cl si : Int) (w : World) (hn : l.length = n) (hs : Ints .i64 w w.heap.size A l) (hl : n ≤ 1000000) (hph : 0 ≤ ph ∧ ph ≤ 1000) (hsi : 0 ≤ si ∧ si ≤ 10000) :
    Calls Try.prog 47 #[.agg #[.int .i64 sp, .int .i64 sg, .slice A n c], .agg #[.int .i64 ag, .int .i64 id, .int .i64 ph, .int .i64 cl, .int .i64 si]] w fun e w' => e = .returned (.int .i64 (startV l ph si)) ∧ Below w.heap.size w w' := by
  have bW := lat_alloc (lat_alloc (Below.refl w.heap.size w) (.cells #[.int .i64 sp, .int .i64 sg, .slice A n c] 24)) (.cells #[.int .i64 ag, .int .i64 id, .int .i64 ph, .int .i64 cl, .int .i64 si] 47)
  have B1 := Blk.alloc (Blk.new (w := w) (t := 24) (cs := #[.int .i64 sp, .int .i64 sg, .slice A n c])) (.cells #[.int .i64 ag, .int .i64 id, .int .i64 ph, .int .i64 cl, .int .i64 si] 47)
  have B2 := Blk.new (w := w.alloc (.cells #[.int .i64 sp, .int .i64 sg, .slice A n c] 24)) (t := 47) (cs := #[.int .i64 ag, .int .i64 id, .int .i64 ph, .int .i64 cl, .int .i64 si])
  rw [heap_size] at B2
  have hI := (hs.below bW).more bW.size
  go_enter Try.func47, Try.ntmps47
  go_wp2_with fail
  generalize (w.alloc (.cells #[.int .i64 sp, .int .i64 sg, .slice A n c] 24)).alloc (.cells #[.int .i64 ag, .int .i64 id, .int .i64 ph, .int .i64 cl, .int .i64 si] 47) = W at *
  have p0 := B1.laterN 0 rfl
  have p1 := B1.laterN 1 rfl
  have p2 := B1.laterN 2 rfl
  have q0 := B2.laterN 0 rfl
  have q1 := B2.laterN 1 rfl
  have q2 := B2.laterN 2 rfl
  have q3 := B2.laterN 3 rfl
  have q4 := B2.laterN 4 rfl
  refine wp_region_grow (by kernel_rfl) (by kernel_rfl) ?_
  repeat' (first
      | go_big_quiet_skip
      | (go_big_quiet_want; first
          | (go_big_quiet_op; go_big_quiet_on)
          | (refine quiet_det ?_; apply Exists.intro; refine ⟨fun w' hC => ?_, ?_⟩; (go_simp <;> (first | rfl | exact ⟨rfl, rfl⟩)); apply Exists.intro; refine ⟨?_, ?_⟩; (go_simp <;> (first | rfl | exact ⟨rfl, rfl⟩)); go_big_quiet_on)
          | (show Oper.quiet _ { dst := _, op := .call { callee := .value _, args := _, argTypes := _ }, type := _, pos := _, after := _, guard := _ } _ _ _; refine quiet_call ?_; apply Exists.intro; apply Exists.intro; refine ⟨fun w' hC => ?_, ?_⟩; (go_simp <;> (first | rfl | exact ⟨rfl, rfl⟩)); apply Exists.intro; refine ⟨fun w' hC => ?_, ?_⟩; (first
              | with_reducible exact grow_call (ended_any sp sg A c n l ph w' hn (hI.grow hC) hl (by omega) (by omega)) hC
              | fail); apply Exists.intro; refine ⟨?_, ?_⟩; (go_simp <;> (first | rfl | exact ⟨rfl, rfl⟩)); go_big_quiet_on)))
  all_goals refine wpQuiet_nil ?_
  intro w' hw
  go_wp2
  all_goals go_ret
  all_goals exact ⟨ret_i (by unfold startV; omega), bW.trans (hw.mono bW.size)⟩
set_option maxHeartbeats 400000 in
theorem rended_any (sp sg : Int) (A : Option Addr) (c n : Nat) (l : List Int) (p : Int) (w : World) (hn : l.length = n) (hs : Ints .i64 w w.heap.size A l) (hl : n ≤ 1000000) (h0 : -9223372036854775808 ≤ p) (h1 : p ≤ 9223372036854775807) :
    Calls Try.prog 48 #[.agg #[.int .i64 sp, .int .i64 sg, .slice A n c], .int .i64 p] w fun e w' => e = .returned (.int .i64 (endV l p)) ∧ Below w.heap.size w w' := by
  subst hn
  have bW := lat_alloc (Below.refl w.heap.size w) (.cells #[.int .i64 sp, .int .i64 sg, .slice A l.length c] 24)
  have r1 := (Blk.new (w := w) (t := 24) (cs := #[.int .i64 sp, .int .i64 sg, .slice A l.length c])).three
  have hI := hs.below bW
  go_enter Try.func48, Try.ntmps48
  by_cases hp : p < 0
  · have H := Lib.hid (show endV l p = -1 by rw [endV, if_pos (.inl hp)])
    go_wp2
    go_ret
    exact ⟨by rw [H.out]; rfl, bW⟩
  · obtain ⟨q, rfl⟩ := Int.eq_ofNat_of_zero_le (show 0 ≤ p by omega)
    by_cases hq : l.length ≤ q
    · have H := Lib.hid (show endV l q = -1 by rw [endV, if_pos (.inr (by omega))])
      go_wp2
      go_ret
      exact ⟨by rw [H.out]; rfl, bW⟩
    · have H := Lib.hid (show endV l q = at_ l q by rw [endV, if_neg (by omega)]; rfl)
      obtain ⟨b, off, rfl, hB, hc⟩ := hI.sub (i := q) (by omega)
      go_wp2
      go_ret
      exact ⟨by rw [H.out]; rfl, bW⟩
theorem rem_any (ag id ph cl si : Int) (w : World) : Calls Try.prog 32 #[.agg #[.int .i64 ag, .int .i64 id, .int .i64 ph, .int .i64 cl, .int .i64 si]] w fun e w' => e = .returned (.bool (emB cl)) ∧ Below w.heap.size w w' := by
  have bW := lat_alloc (Below.refl w.heap.size w) (.cells #[.int .i64 ag, .int .i64 id, .int .i64 ph, .int .i64 cl, .int .i64 si] 47)
  have B := Blk.new (w := w) (t := 47) (cs := #[.int .i64 ag, .int .i64 id, .int .i64 ph, .int .i64 cl, .int .i64 si])
  have c3 := B.cell 3
  go_enter Try.func32, Try.ntmps32
  by_cases h2 : cl = 2
  · have e2 : (cl == 2) = true := by simpa using h2
    have H := Lib.hid (show emB cl = true by simp [emB, h2])
    clear h2
    go_wp2
    go_ret
    exact ⟨by rw [H.out]; rfl, bW⟩
  · have e2 : (cl == 2) = false := by simpa using h2
    by_cases h3 : cl = 3
    · have e3 : (cl == 3) = true := by simpa using h3
      have H := Lib.hid (show emB cl = true by simp [emB, h3])
      clear h2 h3
      go_wp2
      go_ret
      exact ⟨by rw [H.out]; rfl, bW⟩
    · have e3 : (cl == 3) = false := by simpa using h3
      have H := Lib.hid (show emB cl = false by simp [emB, h2, h3])
      clear h2 h3
      go_wp2
      go_ret
      exact ⟨by rw [H.out]; rfl, bW⟩
set_option maxHeartbeats 1000000 in
theorem rstart_any (sp sg : Int) (A : Option Addr) (c n : Nat) (l : List Int) (ag id ph cl si : Int) (w : World) (hn : l.length = n) (hs : Ints .i64 w w.heap.size A l) (hl : n ≤ 1000000) (hph : 0 ≤ ph ∧ ph ≤ 1000) (hsi : 0 ≤ si ∧ si ≤ 10000) :
    Calls Try.prog 52 #[.agg #[.int .i64 sp, .int .i64 sg, .slice A n c], .agg #[.int .i64 ag, .int .i64 id, .int .i64 ph, .int .i64 cl, .int .i64 si]] w fun e w' => e = .returned (.int .i64 (startV l ph si)) ∧ Below w.heap.size w w' := by
  have bW := lat_alloc (lat_alloc (Below.refl w.heap.size w) (.cells #[.int .i64 sp, .int .i64 sg, .slice A n c] 24)) (.cells #[.int .i64 ag, .int .i64 id, .int .i64 ph, .int .i64 cl, .int .i64 si] 47)
  have B1 := Blk.alloc (Blk.new (w := w) (t := 24) (cs := #[.int .i64 sp, .int .i64 sg, .slice A n c])) (.cells #[.int .i64 ag, .int .i64 id, .int .i64 ph, .int .i64 cl, .int .i64 si] 47)
  have B2 := Blk.new (w := w.alloc (.cells #[.int .i64 sp, .int .i64 sg, .slice A n c] 24)) (t := 47) (cs := #[.int .i64 ag, .int .i64 id, .int .i64 ph, .int .i64 cl, .int .i64 si])
  rw [heap_size] at B2
  have hI := (hs.below bW).more bW.size
  go_enter Try.func52, Try.ntmps52
  go_wp2_with fail
  generalize (w.alloc (.cells #[.int .i64 sp, .int .i64 sg, .slice A n c] 24)).alloc (.cells #[.int .i64 ag, .int .i64 id, .int .i64 ph, .int .i64 cl, .int .i64 si] 47) = W at *
  have p0 := B1.laterN 0 rfl
  have p1 := B1.laterN 1 rfl
  have p2 := B1.laterN 2 rfl
  have q0 := B2.laterN 0 rfl
  have q1 := B2.laterN 1 rfl
  have q2 := B2.laterN 2 rfl
  have q3 := B2.laterN 3 rfl
  have q4 := B2.laterN 4 rfl
  refine wp_region_grow (by kernel_rfl) (by kernel_rfl) ?_
  repeat' (first
      | go_big_quiet_skip
      | (go_big_quiet_want; first
          | (go_big_quiet_op; go_big_quiet_on)
          | (refine quiet_det ?_; apply Exists.intro; refine ⟨fun w' hC => ?_, ?_⟩; (go_simp <;> (first | rfl | exact ⟨rfl, rfl⟩)); apply Exists.intro; refine ⟨?_, ?_⟩; (go_simp <;> (first | rfl | exact ⟨rfl, rfl⟩)); go_big_quiet_on)
          | (show Oper.quiet _ { dst := _, op := .call { callee := .value _, args := _, argTypes := _ }, type := _, pos := _, after := _, guard := _ } _ _ _; refine quiet_call ?_; apply Exists.intro; apply Exists.intro; refine ⟨fun w' hC => ?_, ?_⟩; (go_simp <;> (first | rfl | exact ⟨rfl, rfl⟩)); apply Exists.intro; refine ⟨fun w' hC => ?_, ?_⟩; (first
              | with_reducible exact grow_call (rended_any sp sg A c n l ph w' hn (hI.grow hC) hl (by omega) (by omega)) hC
              | fail); apply Exists.intro; refine ⟨?_, ?_⟩; (go_simp <;> (first | rfl | exact ⟨rfl, rfl⟩)); go_big_quiet_on)))
  all_goals refine wpQuiet_nil ?_
  intro w' hw
  go_wp2
  all_goals go_ret
  all_goals exact ⟨ret_i (by unfold startV; omega), bW.trans (hw.mono bW.size)⟩
end Go.Proofs.Ytikffoepndpfjaa
