/-
  Which claims are locked; comparisons. Conditions: the numbers are small.
-/
import Derived.Test.YtikffoepndpfjaaBl
namespace Go.Proofs.Ytikffoepndpfjaa
open Go.ChangeShapes Go.WideShapes Go.RowKit
set_option linter.unusedVariables false

set_option maxHeartbeats 1000000 in
theorem locked_any (per cap hold lock sp sg : Int) (A : Option Addr) (c n : Nat) (l : List Int) (ag id ph cl si now : Int) (w : World) (hn : l.length = n) (hs : Ints .i64 w w.heap.size A l) (hl : n ≤ 1000000) (hS : Small l) (hlock : 0 ≤ lock ∧ lock ≤ 1000) (hph : 0 ≤ ph ∧ ph ≤ 1000) (hnow : 0 ≤ now ∧ now ≤ 10000) :
    Calls Try.prog 38 #[.agg #[.slice none 0 0, .slice none 0 0, .int .i64 per, .int .i64 cap, .int .i64 hold, .int .i64 lock], .agg #[.int .i64 sp, .int .i64 sg, .slice A n c], .agg #[.int .i64 ag, .int .i64 id, .int .i64 ph, .int .i64 cl, .int .i64 si], .int .i64 now] w fun e w' => e = .returned (.bool (lockB lock l ph cl now)) ∧ Below w.heap.size w w' := by
  have he := endV_bd hS ph
  have bW := lat_alloc (lat_alloc (lat_alloc (Below.refl w.heap.size w) (.cells #[.slice none 0 0, .slice none 0 0, .int .i64 per, .int .i64 cap, .int .i64 hold, .int .i64 lock] 33)) (.cells #[.int .i64 sp, .int .i64 sg, .slice A n c] 24)) (.cells #[.int .i64 ag, .int .i64 id, .int .i64 ph, .int .i64 cl, .int .i64 si] 47)
  have B0 := Blk.alloc (Blk.alloc (Blk.new (w := w) (t := 33) (cs := #[.slice none 0 0, .slice none 0 0, .int .i64 per, .int .i64 cap, .int .i64 hold, .int .i64 lock])) (.cells #[.int .i64 sp, .int .i64 sg, .slice A n c] 24)) (.cells #[.int .i64 ag, .int .i64 id, .int .i64 ph, .int .i64 cl, .int .i64 si] 47)
  have B1 := Blk.alloc (Blk.new (w := w.alloc (.cells #[.slice none 0 0, .slice none 0 0, .int .i64 per, .int .i64 cap, .int .i64 hold, .int .i64 lock] 33)) (t := 24) (cs := #[.int .i64 sp, .int .i64 sg, .slice A n c])) (.cells #[.int .i64 ag, .int .i64 id, .int .i64 ph, .int .i64 cl, .int .i64 si] 47)
  have B2 := Blk.new (w := (w.alloc (.cells #[.slice none 0 0, .slice none 0 0, .int .i64 per, .int .i64 cap, .int .i64 hold, .int .i64 lock] 33)).alloc (.cells #[.int .i64 sp, .int .i64 sg, .slice A n c] 24)) (t := 47) (cs := #[.int .i64 ag, .int .i64 id, .int .i64 ph, .int .i64 cl, .int .i64 si])
  rw [heap_size] at B1
  rw [heap_size, heap_size] at B2
  have hI := (hs.below bW).more bW.size
  go_enter Try.func38, Try.ntmps38
  go_wp2_with fail
  generalize ((w.alloc (.cells #[.slice none 0 0, .slice none 0 0, .int .i64 per, .int .i64 cap, .int .i64 hold, .int .i64 lock] 33)).alloc (.cells #[.int .i64 sp, .int .i64 sg, .slice A n c] 24)).alloc (.cells #[.int .i64 ag, .int .i64 id, .int .i64 ph, .int .i64 cl, .int .i64 si] 47) = W at *
  have o0 := B0.laterN 0 rfl
  have o1 := B0.laterN 1 rfl
  have o2 := B0.laterN 2 rfl
  have o3 := B0.laterN 3 rfl
  have o4 := B0.laterN 4 rfl
  have o5 := B0.laterN 5 rfl
  have p0 := B1.laterN 0 rfl
  have p1 := B1.laterN 1 rfl
  have p2 := B1.laterN 2 rfl
  have q0 := B2.laterN 0 rfl
  have q1 := B2.laterN 1 rfl
  have q2 := B2.laterN 2 rfl
  have q3 := B2.laterN 3 rfl
  have q4 := B2.laterN 4 rfl
  refine (ended_any sp sg A c n l ph _ hn hI hl (by omega) (by omega)).mono ?_
  rintro e w1 ⟨rfl, hb1⟩
  go_wp2_with fail
  refine (em_any _ _ _ _ _ _).mono ?_
  cases hem : emB cl with
  | true =>
    have H := Lib.hid (show lockB lock l ph cl now = false by simp [lockB, hem])
    clear hem
    rintro e w2 ⟨rfl, hb2⟩
    go_wp2
    go_ret
    exact ⟨ret_b H.out.symm, bW.trans ((hb1.trans (hb2.mono hb1.size)).mono bW.size)⟩
  | false =>
    rintro e w2 ⟨rfl, hb2⟩
    have hb3 : Below W.heap.size W w2 := hb1.trans (hb2.mono hb1.size)
    by_cases hm : endV l ph = -1
    · have z : (endV l ph != -1) = false := by simpa using hm
      have H := Lib.hid (show lockB lock l ph cl now = false by simp [lockB, hem, hm])
      clear hem hm
      go_wp2
      go_ret
      exact ⟨ret_b H.out.symm, bW.trans (hb3.mono bW.size)⟩
    · have z : (endV l ph != -1) = true := by simpa using hm
      have H := Lib.hid (show lockB lock l ph cl now = decide (now - endV l ph ≤ lock) by simp [lockB, hem, hm])
      clear hem hm
      go_wp2
      go_ret
      exact ⟨ret_b H.out.symm, bW.trans (hb3.mono bW.size)⟩
set_option maxHeartbeats 1000000 in
theorem rlocked_any (per cap hold lock sp sg : Int) (A : Option Addr) (c n : Nat) (l : List Int) (ag id ph cl si now : Int) (w : World) (hn : l.length = n) (hs : Ints .i64 w w.heap.size A l) (hl : n ≤ 1000000) (hS : Small l) (hlock : 0 ≤ lock ∧ lock ≤ 1000) (hph : 0 ≤ ph ∧ ph ≤ 1000) (hnow : 0 ≤ now ∧ now ≤ 10000) :
    Calls Try.prog 40 #[.agg #[.slice none 0 0, .slice none 0 0, .int .i64 per, .int .i64 cap, .int .i64 hold, .int .i64 lock], .agg #[.int .i64 sp, .int .i64 sg, .slice A n c], .agg #[.int .i64 ag, .int .i64 id, .int .i64 ph, .int .i64 cl, .int .i64 si], .int .i64 now] w fun e w' => e = .returned (.bool (lockB lock l ph cl now)) ∧ Below w.heap.size w w' := by
  have he := endV_bd hS ph
  have bW := lat_alloc (lat_alloc (lat_alloc (Below.refl w.heap.size w) (.cells #[.slice none 0 0, .slice none 0 0, .int .i64 per, .int .i64 cap, .int .i64 hold, .int .i64 lock] 33)) (.cells #[.int .i64 sp, .int .i64 sg, .slice A n c] 24)) (.cells #[.int .i64 ag, .int .i64 id, .int .i64 ph, .int .i64 cl, .int .i64 si] 47)
  have B0 := Blk.alloc (Blk.alloc (Blk.new (w := w) (t := 33) (cs := #[.slice none 0 0, .slice none 0 0, .int .i64 per, .int .i64 cap, .int .i64 hold, .int .i64 lock])) (.cells #[.int .i64 sp, .int .i64 sg, .slice A n c] 24)) (.cells #[.int .i64 ag, .int .i64 id, .int .i64 ph, .int .i64 cl, .int .i64 si] 47)
  have B1 := Blk.alloc (Blk.new (w := w.alloc (.cells #[.slice none 0 0, .slice none 0 0, .int .i64 per, .int .i64 cap, .int .i64 hold, .int .i64 lock] 33)) (t := 24) (cs := #[.int .i64 sp, .int .i64 sg, .slice A n c])) (.cells #[.int .i64 ag, .int .i64 id, .int .i64 ph, .int .i64 cl, .int .i64 si] 47)
  have B2 := Blk.new (w := (w.alloc (.cells #[.slice none 0 0, .slice none 0 0, .int .i64 per, .int .i64 cap, .int .i64 hold, .int .i64 lock] 33)).alloc (.cells #[.int .i64 sp, .int .i64 sg, .slice A n c] 24)) (t := 47) (cs := #[.int .i64 ag, .int .i64 id, .int .i64 ph, .int .i64 cl, .int .i64 si])
  rw [heap_size] at B1
  rw [heap_size, heap_size] at B2
  have hI := (hs.below bW).more bW.size
  go_enter Try.func40, Try.ntmps40
  go_wp2_with fail
  generalize ((w.alloc (.cells #[.slice none 0 0, .slice none 0 0, .int .i64 per, .int .i64 cap, .int .i64 hold, .int .i64 lock] 33)).alloc (.cells #[.int .i64 sp, .int .i64 sg, .slice A n c] 24)).alloc (.cells #[.int .i64 ag, .int .i64 id, .int .i64 ph, .int .i64 cl, .int .i64 si] 47) = W at *
  have o0 := B0.laterN 0 rfl
  have o1 := B0.laterN 1 rfl
  have o2 := B0.laterN 2 rfl
  have o3 := B0.laterN 3 rfl
  have o4 := B0.laterN 4 rfl
  have o5 := B0.laterN 5 rfl
  have p0 := B1.laterN 0 rfl
  have p1 := B1.laterN 1 rfl
  have p2 := B1.laterN 2 rfl
  have q0 := B2.laterN 0 rfl
  have q1 := B2.laterN 1 rfl
  have q2 := B2.laterN 2 rfl
  have q3 := B2.laterN 3 rfl
  have q4 := B2.laterN 4 rfl
  refine (rended_any sp sg A c n l ph _ hn hI hl (by omega) (by omega)).mono ?_
  rintro e w1 ⟨rfl, hb1⟩
  go_wp2_with fail
  refine (rem_any _ _ _ _ _ _).mono ?_
  cases hem : emB cl with
  | true =>
    have H := Lib.hid (show lockB lock l ph cl now = false by simp [lockB, hem])
    clear hem
    rintro e w2 ⟨rfl, hb2⟩
    go_wp2
    go_ret
    exact ⟨ret_b H.out.symm, bW.trans ((hb1.trans (hb2.mono hb1.size)).mono bW.size)⟩
  | false =>
    rintro e w2 ⟨rfl, hb2⟩
    have hb3 : Below W.heap.size W w2 := hb1.trans (hb2.mono hb1.size)
    by_cases hm : endV l ph = -1
    · have z : (endV l ph != -1) = false := by simpa using hm
      have H := Lib.hid (show lockB lock l ph cl now = false by simp [lockB, hem, hm])
      clear hem hm
      go_wp2
      go_ret
      exact ⟨ret_b H.out.symm, bW.trans (hb3.mono bW.size)⟩
    · have z : (endV l ph != -1) = true := by simpa using hm
      have H := Lib.hid (show lockB lock l ph cl now = decide (now - endV l ph ≤ lock) by simp [lockB, hem, hm])
      clear hem hm
      go_wp2
      go_ret
      exact ⟨ret_b H.out.symm, bW.trans (hb3.mono bW.size)⟩
theorem nan_any (x : Int) (w : World) : Calls Try.prog 51 #[.int .i64 x] w fun e w' => e = .returned (.bool false) ∧ w = w' := by
  go_enter Try.func51, Try.ntmps51
  go_wp2
  go_ret
  exact ⟨by simp, rfl⟩
def cmpV (x y : Int) : Int := if x < y then -1 else if y < x then 1 else 0
theorem cmp_any (x y : Int) (w : World) : Calls Try.prog 46 #[.int .i64 x, .int .i64 y] w fun e w' => e = .returned (.int .i64 (cmpV x y)) ∧ Below w.heap.size w w' := by
  go_enter Try.func46, Try.ntmps46
  go_wp2_with (go_at_call 51; refine (nan_any _ _).mono ?_; rintro e w' ⟨rfl, rfl⟩)
  all_goals go_ret
  all_goals exact ⟨ret_i (by unfold cmpV; (repeat' split) <;> omega), Below.refl _ _⟩
/-- The first that is not zero. -/
def orV : List Int → Int
  | [] => 0
  | x :: l => if x = 0 then orV l else x
theorem orV_drop {l : List Int} : ∀ {k : Nat}, (∀ j, j < k → at_ l j = 0) → k ≤ l.length → orV l = orV (l.drop k) := by
  induction l with
  | nil => intro k _ hk; simp at hk; subst hk; rfl
  | cons x l ih =>
    intro k h hk
    cases k with
    | zero => rfl
    | succ k =>
      have h0 : x = 0 := h 0 (by omega)
      rw [orV, if_pos h0]
      exact ih (fun j hj => h (j + 1) (by omega)) (by simpa using hk)
theorem drop_at {l : List Int} {k : Nat} (hk : k < l.length) : l.drop k = at_ l k :: l.drop (k + 1) := by
  rw [List.drop_eq_getElem_cons hk]; simp [at_, hk]
set_option maxHeartbeats 400000 in
theorem or_any (A : Option Addr) (c n : Nat) (l : List Int) (w : World) (hn : l.length = n) (hs : Ints .i64 w w.heap.size A l) (hl : n ≤ 1000000) :
    Calls Try.prog 45 #[.slice A n c] w fun e w' => e = .returned (.int .i64 (orV l)) ∧ Below w.heap.size w w' := by
  subst hn
  go_enter Try.func45, Try.ntmps45
  go_wp2
  go_loop [8] (fun i => ∃ k : Nat, k ≤ l.length ∧ i = .int .i64 k ∧ ∀ j, j < k → at_ l j = 0) (fun i => l.length - (intOf i).toNat)
  case atStart => exact ⟨0, Nat.zero_le _, rfl, fun j hj => by omega⟩
  case round =>
    obtain ⟨k, hk, rfl, hz⟩ := hrel
    by_cases hlt : k < l.length
    · obtain ⟨b, off, rfl, hB, hc⟩ := hs.sub hlt
      by_cases h0 : at_ l k = 0
      · have z0 : (at_ l k == 0) = true := by simpa using h0
        have HZ := Lib.hid (show ∀ j, j < k + 1 → at_ l j = 0 from fun j hj => by
          rcases Nat.lt_or_ge j k with h | h
          · exact hz j h
          · rw [show j = k by omega]; exact h0)
        clear h0 hz
        go_wp2
        go_round
        case rel => exact ⟨k + 1, by omega, by go_num, HZ.out⟩
        case measure => simp [intOf]; omega
      · have z0 : (at_ l k == 0) = false := by simpa using h0
        have H := Lib.hid (show orV l = at_ l k by rw [orV_drop hz hk, drop_at hlt, orV, if_neg h0])
        clear h0 hz
        go_wp2
        go_ret
        exact ⟨ret_i H.out.symm, Below.refl _ _⟩
    · have H := Lib.hid (show orV l = 0 by rw [orV_drop hz hk, show k = l.length by omega, List.drop_length]; rfl)
      clear hz
      go_wp2
      go_ret
      exact ⟨ret_i H.out.symm, Below.refl _ _⟩
end Go.Proofs.Ytikffoepndpfjaa
