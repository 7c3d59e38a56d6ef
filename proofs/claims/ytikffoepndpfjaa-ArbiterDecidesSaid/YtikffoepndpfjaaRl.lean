/-
  Which claim goes ahead. Conditions: the numbers are small.
-/
import Derived.Test.YtikffoepndpfjaaRc
namespace Go.Proofs.Ytikffoepndpfjaa
open Go.ChangeShapes Go.WideShapes Go.RowKit
set_option linter.unusedVariables false

def lexB : List Int → List Int → Bool
  | x :: xs, y :: ys => if x = y then lexB xs ys else decide (x < y)
  | _, _ => false
def keyL (per cap : Int) (l : List Int) (ag id ph cl si now : Int) : List Int := [if emB cl then 0 else 1, if emB cl then -cl else -levelV per cap l ph cl si now, startV l ph si, ag, id]
theorem less_math (k a b s t g h i j p : Int) (hp : p = a - b) : decide (orV [p, cmpV s t, cmpV g h, cmpV i j] < 0) = lexB [k, a, s, g, i] [k, b, t, h, j] := by
  subst hp
  have e0 : ∀ (x : Int) (l : List Int), x = 0 → orV (x :: l) = orV l := fun x l h => by rw [orV, if_pos h]
  have e1 : ∀ (x : Int) (l : List Int), x ≠ 0 → orV (x :: l) = x := fun x l h => by rw [orV, if_neg h]
  have f0 : ∀ (x y : Int) (l m : List Int), x = y → lexB (x :: l) (y :: m) = lexB l m := fun x y l m h => by rw [lexB, if_pos h]
  have f1 : ∀ (x y : Int) (l m : List Int), x ≠ y → lexB (x :: l) (y :: m) = decide (x < y) := fun x y l m h => by rw [lexB, if_neg h]
  have c0 : ∀ x y : Int, x = y → cmpV x y = 0 := fun x y h => by unfold cmpV; split <;> (try split) <;> omega
  have c1 : ∀ x y : Int, x ≠ y → cmpV x y ≠ 0 := fun x y h => by unfold cmpV; split <;> (try split) <;> omega
  have c2 : ∀ x y : Int, decide (cmpV x y < 0) = decide (x < y) := fun x y => decide_eq_decide.2 (by unfold cmpV; split <;> (try split) <;> omega)
  rw [f0 k k _ _ rfl]
  by_cases h1 : a = b
  · rw [e0 _ _ (by omega), f0 _ _ _ _ h1]
    by_cases h2 : s = t
    · rw [e0 _ _ (c0 _ _ h2), f0 _ _ _ _ h2]
      by_cases h3 : g = h
      · rw [e0 _ _ (c0 _ _ h3), f0 _ _ _ _ h3]
        by_cases h4 : i = j
        · rw [e0 _ _ (c0 _ _ h4), f0 _ _ _ _ h4]; rfl
        · rw [e1 _ _ (c1 _ _ h4), f1 _ _ _ _ h4, c2]
      · rw [e1 _ _ (c1 _ _ h3), f1 _ _ _ _ h3, c2]
    · rw [e1 _ _ (c1 _ _ h2), f1 _ _ _ _ h2, c2]
  · rw [e1 _ _ (by omega), f1 _ _ _ _ h1]; exact decide_eq_decide.2 (by omega)
theorem em_of {cl : Int} {b : Bool} (h : emB cl = b) (ag id ph si : Int) (w : World) : Calls Try.prog 27 #[.agg #[.int .i64 ag, .int .i64 id, .int .i64 ph, .int .i64 cl, .int .i64 si]] w fun e w' => e = .returned (.bool b) ∧ Below w.heap.size w w' := by
  have := em_any ag id ph cl si w
  rwa [h] at this
theorem cmpV_bd (x y : Int) : -1 ≤ cmpV x y ∧ cmpV x y ≤ 1 := by unfold cmpV; split <;> (try split) <;> omega
set_option maxRecDepth 20000 in
set_option maxHeartbeats 4000000 in
theorem less_any (per cap hold lock sp sg : Int) (A : Option Addr) (c n : Nat) (l : List Int) (now ag id ph cl si ag' id' ph' cl' si' : Int) (w : World) (hn : l.length = n) (hs : Ints .i64 w w.heap.size A l) (hl : n ≤ 1000000) (hS : Small l) (hper : 1 ≤ per ∧ per ≤ 10000) (hcap : 0 ≤ cap ∧ cap ≤ 1000) (hlock : 0 ≤ lock ∧ lock ≤ 1000) (hnow : 0 ≤ now ∧ now ≤ 10000) (hph : 0 ≤ ph ∧ ph ≤ 1000) (hcl : 0 ≤ cl ∧ cl ≤ 3) (hsi : 0 ≤ si ∧ si ≤ 10000) (hph' : 0 ≤ ph' ∧ ph' ≤ 1000) (hcl' : 0 ≤ cl' ∧ cl' ≤ 3) (hsi' : 0 ≤ si' ∧ si' ≤ 10000) :
    Calls Try.prog 39 #[.agg #[.slice none 0 0, .slice none 0 0, .int .i64 per, .int .i64 cap, .int .i64 hold, .int .i64 lock], .agg #[.int .i64 sp, .int .i64 sg, .slice A n c], .int .i64 now, .agg #[.int .i64 ag, .int .i64 id, .int .i64 ph, .int .i64 cl, .int .i64 si], .agg #[.int .i64 ag', .int .i64 id', .int .i64 ph', .int .i64 cl', .int .i64 si']] w fun e w' =>
      e = .returned (.bool (lexB (keyL per cap l ag id ph cl si now) (keyL per cap l ag' id' ph' cl' si' now))) ∧ Below w.heap.size w w' := by
  have hb := level_bd hS ph cl si now hper hcap hcl hsi hnow
  have hb' := level_bd hS ph' cl' si' now hper hcap hcl' hsi' hnow
  have bW := lat_alloc (lat_alloc (lat_alloc (lat_alloc (Below.refl w.heap.size w) (.cells #[.slice none 0 0, .slice none 0 0, .int .i64 per, .int .i64 cap, .int .i64 hold, .int .i64 lock] 33)) (.cells #[.int .i64 sp, .int .i64 sg, .slice A n c] 24)) (.cells #[.int .i64 ag, .int .i64 id, .int .i64 ph, .int .i64 cl, .int .i64 si] 47)) (.cells #[.int .i64 ag', .int .i64 id', .int .i64 ph', .int .i64 cl', .int .i64 si'] 47)
  have B0 := Blk.alloc (Blk.alloc (Blk.alloc (Blk.new (w := w) (t := 33) (cs := #[.slice none 0 0, .slice none 0 0, .int .i64 per, .int .i64 cap, .int .i64 hold, .int .i64 lock])) (.cells #[.int .i64 sp, .int .i64 sg, .slice A n c] 24)) (.cells #[.int .i64 ag, .int .i64 id, .int .i64 ph, .int .i64 cl, .int .i64 si] 47)) (.cells #[.int .i64 ag', .int .i64 id', .int .i64 ph', .int .i64 cl', .int .i64 si'] 47)
  have B1 := Blk.alloc (Blk.alloc (Blk.new (w := w.alloc (.cells #[.slice none 0 0, .slice none 0 0, .int .i64 per, .int .i64 cap, .int .i64 hold, .int .i64 lock] 33)) (t := 24) (cs := #[.int .i64 sp, .int .i64 sg, .slice A n c])) (.cells #[.int .i64 ag, .int .i64 id, .int .i64 ph, .int .i64 cl, .int .i64 si] 47)) (.cells #[.int .i64 ag', .int .i64 id', .int .i64 ph', .int .i64 cl', .int .i64 si'] 47)
  have B2 := Blk.alloc (Blk.new (w := (w.alloc (.cells #[.slice none 0 0, .slice none 0 0, .int .i64 per, .int .i64 cap, .int .i64 hold, .int .i64 lock] 33)).alloc (.cells #[.int .i64 sp, .int .i64 sg, .slice A n c] 24)) (t := 47) (cs := #[.int .i64 ag, .int .i64 id, .int .i64 ph, .int .i64 cl, .int .i64 si])) (.cells #[.int .i64 ag', .int .i64 id', .int .i64 ph', .int .i64 cl', .int .i64 si'] 47)
  have B3 := Blk.new (w := ((w.alloc (.cells #[.slice none 0 0, .slice none 0 0, .int .i64 per, .int .i64 cap, .int .i64 hold, .int .i64 lock] 33)).alloc (.cells #[.int .i64 sp, .int .i64 sg, .slice A n c] 24)).alloc (.cells #[.int .i64 ag, .int .i64 id, .int .i64 ph, .int .i64 cl, .int .i64 si] 47)) (t := 47) (cs := #[.int .i64 ag', .int .i64 id', .int .i64 ph', .int .i64 cl', .int .i64 si'])
  rw [heap_size] at B1
  rw [heap_size, heap_size] at B2
  rw [heap_size, heap_size, heap_size] at B3
  have hI := (hs.below bW).more bW.size
  have w1 : IntKind.i64.wrap (levelV per cap l ph' cl' si' now - levelV per cap l ph cl si now) = levelV per cap l ph' cl' si' now - levelV per cap l ph cl si now := by rw [IntKind.wrap_i64]; omega
  have HW1 := Lib.hid w1
  clear w1
  go_enter Try.func39, Try.ntmps39
  go_wp2_with fail
  generalize (((w.alloc (.cells #[.slice none 0 0, .slice none 0 0, .int .i64 per, .int .i64 cap, .int .i64 hold, .int .i64 lock] 33)).alloc (.cells #[.int .i64 sp, .int .i64 sg, .slice A n c] 24)).alloc (.cells #[.int .i64 ag, .int .i64 id, .int .i64 ph, .int .i64 cl, .int .i64 si] 47)).alloc (.cells #[.int .i64 ag', .int .i64 id', .int .i64 ph', .int .i64 cl', .int .i64 si'] 47) = W at *
  generalize w.heap.size + 1 + 1 + 1 = gB at *
  generalize w.heap.size + 1 + 1 = gA at *
  generalize w.heap.size + 1 = gS at *
  cases ha : emB cl with
  | false =>
   cases hb0 : emB cl' with
   | false =>
    have HA := Lib.hid ha
    have HB := Lib.hid hb0
    clear ha hb0
    have q0 := B2.laterN 0 rfl
    have q1 := B2.laterN 1 rfl
    have q2 := B2.laterN 2 rfl
    have q3 := B2.laterN 3 rfl
    have q4 := B2.laterN 4 rfl
    have r0 := B3.laterN 0 rfl
    have r1 := B3.laterN 1 rfl
    have r2 := B3.laterN 2 rfl
    have r3 := B3.laterN 3 rfl
    have r4 := B3.laterN 4 rfl
    refine wp_region_grow (by kernel_rfl) (by kernel_rfl) ?_
    repeat' (first
        | go_big_quiet_skip
        | (go_big_quiet_want; first
            | (go_big_quiet_op; go_big_quiet_on)
            | (refine quiet_det ?_; apply Exists.intro; refine ⟨fun w' hC => ?_, ?_⟩; (go_simp <;> (first | rfl | exact ⟨rfl, rfl⟩)); apply Exists.intro; refine ⟨?_, ?_⟩; (go_simp <;> (first | rfl | exact ⟨rfl, rfl⟩)); go_big_quiet_on)
            | (show Oper.quiet _ { dst := _, op := .call { callee := .value _, args := _, argTypes := _ }, type := _, pos := _, after := _, guard := _ } _ _ _; refine quiet_call ?_; apply Exists.intro; apply Exists.intro; refine ⟨fun w' hC => ?_, ?_⟩; (go_simp <;> (first | rfl | exact ⟨rfl, rfl⟩)); apply Exists.intro; refine ⟨fun w' hC => ?_, ?_⟩; (first
                | with_reducible exact grow_call (em_of HA.out ag id ph si w') hC
                | with_reducible exact grow_call (em_of HB.out ag' id' ph' si' w') hC
                | fail); apply Exists.intro; refine ⟨?_, ?_⟩; (go_simp <;> (first | rfl | exact ⟨rfl, rfl⟩)); go_big_quiet_on)))
    all_goals refine wpQuiet_nil ?_
    intro w1 hw1
    have b1 := bW.trans (hw1.mono bW.size)
    clear q0 q1 q2 q3 q4 r0 r1 r2 r3 r4
    have D0 := B0.below hw1
    have D1 := B1.below hw1
    have D2 := B2.below hw1
    have D3 := B3.below hw1
    have hI1 := hI.grow hw1
    go_wp2_with fail
    have w1e := HW1.out
    have o0 := D0.laterN 0 rfl
    have o1 := D0.laterN 1 rfl
    have o2 := D0.laterN 2 rfl
    have o3 := D0.laterN 3 rfl
    have o4 := D0.laterN 4 rfl
    have o5 := D0.laterN 5 rfl
    have p0 := D1.laterN 0 rfl
    have p1 := D1.laterN 1 rfl
    have p2 := D1.laterN 2 rfl
    have q0 := D2.laterN 0 rfl
    have q1 := D2.laterN 1 rfl
    have q2 := D2.laterN 2 rfl
    have q3 := D2.laterN 3 rfl
    have q4 := D2.laterN 4 rfl
    have r0 := D3.laterN 0 rfl
    have r1 := D3.laterN 1 rfl
    have r2 := D3.laterN 2 rfl
    have r3 := D3.laterN 3 rfl
    have r4 := D3.laterN 4 rfl
    refine wp_region_grow (by kernel_rfl) (by kernel_rfl) ?_
    repeat' (first
        | go_big_quiet_skip
        | (go_big_quiet_want; first
            | (go_big_quiet_op; go_big_quiet_on)
            | (refine quiet_det ?_; apply Exists.intro; refine ⟨fun w' hC => ?_, ?_⟩; (go_simp <;> (first | rfl | exact ⟨rfl, rfl⟩)); apply Exists.intro; refine ⟨?_, ?_⟩; (go_simp <;> (first | rfl | exact ⟨rfl, rfl⟩)); go_big_quiet_on)
            | (show Oper.quiet _ { dst := _, op := .call { callee := .value _, args := _, argTypes := _ }, type := _, pos := _, after := _, guard := _ } _ _ _; refine quiet_call ?_; apply Exists.intro; apply Exists.intro; refine ⟨fun w' hC => ?_, ?_⟩; (go_simp <;> (first | rfl | exact ⟨rfl, rfl⟩)); apply Exists.intro; refine ⟨fun w' hC => ?_, ?_⟩; (first
                | with_reducible exact grow_call (level_any per cap hold lock sp sg A c n l ag id ph cl si now w' hn (hI1.grow hC) hl hS hper hcap hlock hph hcl hsi hnow) hC
                | with_reducible exact grow_call (level_any per cap hold lock sp sg A c n l ag' id' ph' cl' si' now w' hn (hI1.grow hC) hl hS hper hcap hlock hph' hcl' hsi' hnow) hC
                | fail); apply Exists.intro; refine ⟨?_, ?_⟩; (go_simp <;> (first | rfl | exact ⟨rfl, rfl⟩)); go_big_quiet_on)))
    all_goals refine wpQuiet_nil ?_
    intro w2 hw2
    clear o0 o1 o2 o3 o4 o5 p0 p1 p2 q0 q1 q2 q3 q4 r0 r1 r2 r3 r4 w1e
    have b2 := b1.trans (hw2.mono b1.size)
    have E1 := D1.below hw2
    have E2 := D2.below hw2
    have E3 := D3.below hw2
    have hI2 := hI1.grow hw2
    clear D0 D1 D2 D3 B0 B1 B2 B3
    have q0 := E2.cell 0
    have q1 := E2.cell 1
    have q2 := E2.cell 2
    have q3 := E2.cell 3
    have q4 := E2.cell 4
    go_wp2_with fail
    refine (em_of HA.out ag id ph si _).mono ?_; rintro e w3 ⟨rfl, hb3⟩
    have b3 := b2.trans (hb3.mono b2.size)
    have F1 := E1.below hb3
    have F2 := E2.below hb3
    have F3 := E3.below hb3
    have hI3 := hI2.grow hb3
    clear q0 q1 q2 q3 q4 E1 E2 E3
    have q3 := F2.cell 3
    have r3 := F3.cell 3
    go_wp2_with fail
    clear q3 r3
    have p0 := F1.laterN 0 rfl
    have p1 := F1.laterN 1 rfl
    have p2 := F1.laterN 2 rfl
    have q0 := F2.laterN 0 rfl
    have q1 := F2.laterN 1 rfl
    have q2 := F2.laterN 2 rfl
    have q3 := F2.laterN 3 rfl
    have q4 := F2.laterN 4 rfl
    have r0 := F3.laterN 0 rfl
    have r1 := F3.laterN 1 rfl
    have r2 := F3.laterN 2 rfl
    have r3 := F3.laterN 3 rfl
    have r4 := F3.laterN 4 rfl
    have HM := Lib.hid (show decide (orV [levelV per cap l ph' cl' si' now - levelV per cap l ph cl si now, cmpV (startV l ph si) (startV l ph' si'), cmpV ag ag', cmpV id id'] < 0) = lexB (keyL per cap l ag id ph cl si now) (keyL per cap l ag' id' ph' cl' si' now) by
      rw [less_math 1 (-levelV per cap l ph cl si now) (-levelV per cap l ph' cl' si' now) _ _ _ _ _ _ _ (by omega)]; simp [keyL, HA.out, HB.out])
    generalize hwt : levelV per cap l ph' cl' si' now - levelV per cap l ph cl si now = wt at HM ⊢
    clear hwt
    refine wp_region_pre (R := Bl) 21 58 [fun v _ => v = .int .i64 wt, fun v _ => v = .agg #[.int .i64 sp, .int .i64 sg, .slice A n c], fun v _ => v = .agg #[.int .i64 ag, .int .i64 id, .int .i64 ph, .int .i64 cl, .int .i64 si], fun v _ => v = .int .i64 (startV l ph si), fun v _ => v = .agg #[.int .i64 sp, .int .i64 sg, .slice A n c], fun v _ => v = .agg #[.int .i64 ag', .int .i64 id', .int .i64 ph', .int .i64 cl', .int .i64 si'], fun v _ => v = .int .i64 (startV l ph' si'), fun v _ => v = .int .i64 (cmpV (startV l ph si) (startV l ph' si')), fun v _ => v = .pointer (some ⟨gA, 0, none⟩), fun v _ => v = .int .i64 ag, fun v _ => v = .pointer (some ⟨gB, 0, none⟩), fun v _ => v = .int .i64 ag', fun v _ => v = .int .i64 (cmpV ag ag'), fun v _ => v = .pointer (some ⟨gA, 1, none⟩), fun v _ => v = .int .i64 id, fun v _ => v = .pointer (some ⟨gB, 1, none⟩), fun v _ => v = .int .i64 id', fun v _ => v = .int .i64 (cmpV id id'), fun v w => ∃ g, v = .slice (some ⟨g, 0, none⟩) 4 4 ∧ Ints .i64 w w.heap.size (some ⟨g, 0, none⟩) [wt, cmpV (startV l ph si) (startV l ph' si'), cmpV ag ag', cmpV id id'], fun v _ => v = .int .i64 (orV [wt, cmpV (startV l ph si) (startV l ph' si'), cmpV ag ag', cmpV id id']), fun v _ => v = .bool (decide (orV [wt, cmpV (startV l ph si) (startV l ph' si'), cmpV ag ag', cmpV id id'] < 0))] (Bl.trans) (Bl.drew) (by kernel_rfl) (fun _ _ d _ _ h => by cases d <;> exact h) rfl (by kernel_rfl) (stay_cons (stays_v _) (stay_cons (stays_v _) (stay_cons (stays_v _) (stay_cons (stays_v _) (stay_cons (stays_v _) (stay_cons (stays_v _) (stay_cons (stays_v _) (stay_cons (stays_v _) (stay_cons (stays_v _) (stay_cons (stays_v _) (stay_cons (stays_v _) (stay_cons (stays_v _) (stay_cons (stays_v _) (stay_cons (stays_v _) (stay_cons (stays_v _) (stay_cons (stays_v _) (stay_cons (stays_v _) (stay_cons (stays_v _) (stay_cons (fun _ _ _ ⟨g, h1, h2⟩ hb => ⟨g, h1, Ints.grow h2 hb⟩) (stay_cons (stays_v _) (stay_cons (stays_v _) (stay_nil)))))))))))))))))))))) ?_ ?_
    · simp only [List.take_succ_cons, List.take_zero]
      refine steps_cons (Bl.refl) (fun ev xw hb hc hf hfr hd hr => ?_) ?_
      · have e11 : ev (.tmp 11) = .int .i64 wt := hfr 11 (by kernel_rfl)
        clear hfr hd
        have hbb : Below w3.heap.size w3 xw := hb
        show OpOk _ _ ev xw fun v w' => Bl xw w' ∧ v = .int .i64 wt
        unfold OpOk
        go_simp
        all_goals first | done | exact hr | exact ⟨hr, rfl⟩
      refine steps_cons (Bl.refl) (fun ev xw hb hc hf hfr hd hr => ?_) ?_
      · have e6 : ev (.tmp 6) = .pointer (some ⟨gS, 0, none⟩) := hfr 6 (by kernel_rfl)
        clear hfr hd
        have hbb : Below w3.heap.size w3 xw := hb
        show OpOk _ _ ev xw fun v w' => Bl xw w' ∧ v = .agg #[.int .i64 sp, .int .i64 sg, .slice A n c]
        unfold OpOk
        go_simp
        all_goals first | done | exact hr | exact ⟨hr, rfl⟩
      refine steps_cons (Bl.refl) (fun ev xw hb hc hf hfr hd hr => ?_) ?_
      · have e8 : ev (.tmp 8) = .pointer (some ⟨gA, 0, none⟩) := hfr 8 (by kernel_rfl)
        clear hfr hd
        have hbb : Below w3.heap.size w3 xw := hb
        show OpOk _ _ ev xw fun v w' => Bl xw w' ∧ v = .agg #[.int .i64 ag, .int .i64 id, .int .i64 ph, .int .i64 cl, .int .i64 si]
        unfold OpOk
        go_simp
        all_goals first | done | exact hr | exact ⟨hr, rfl⟩
      refine steps_cons (Bl.refl) (fun ev xw hb hc hf hfr hd hr => ?_) ?_
      · have e38 : ev (.tmp 38) = .agg #[.int .i64 sp, .int .i64 sg, .slice A n c] := hd 1 38 (by kernel_rfl)
        have e39 : ev (.tmp 39) = .agg #[.int .i64 ag, .int .i64 id, .int .i64 ph, .int .i64 cl, .int .i64 si] := hd 2 39 (by kernel_rfl)
        clear hfr hd
        have hbb : Below w3.heap.size w3 xw := hb
        show OpOk _ _ ev xw fun v w' => Bl xw w' ∧ v = .int .i64 (startV l ph si)
        unfold OpOk
        go_simp
        exact (start_any sp sg A c n l ag id ph cl si xw hn (hI3.grow hb) hl hph hsi).mono fun e w'' ⟨he, hw⟩ => by first | exact ⟨he, hw⟩ | exact ⟨hw, he⟩ | exact ⟨_, he, hw, rfl⟩
      refine steps_cons (Bl.refl) (fun ev xw hb hc hf hfr hd hr => ?_) ?_
      · have e6 : ev (.tmp 6) = .pointer (some ⟨gS, 0, none⟩) := hfr 6 (by kernel_rfl)
        clear hfr hd
        have hbb : Below w3.heap.size w3 xw := hb
        show OpOk _ _ ev xw fun v w' => Bl xw w' ∧ v = .agg #[.int .i64 sp, .int .i64 sg, .slice A n c]
        unfold OpOk
        go_simp
        all_goals first | done | exact hr | exact ⟨hr, rfl⟩
      refine steps_cons (Bl.refl) (fun ev xw hb hc hf hfr hd hr => ?_) ?_
      · have e9 : ev (.tmp 9) = .pointer (some ⟨gB, 0, none⟩) := hfr 9 (by kernel_rfl)
        clear hfr hd
        have hbb : Below w3.heap.size w3 xw := hb
        show OpOk _ _ ev xw fun v w' => Bl xw w' ∧ v = .agg #[.int .i64 ag', .int .i64 id', .int .i64 ph', .int .i64 cl', .int .i64 si']
        unfold OpOk
        go_simp
        all_goals first | done | exact hr | exact ⟨hr, rfl⟩
      refine steps_cons (Bl.refl) (fun ev xw hb hc hf hfr hd hr => ?_) ?_
      · have e41 : ev (.tmp 41) = .agg #[.int .i64 sp, .int .i64 sg, .slice A n c] := hd 4 41 (by kernel_rfl)
        have e42 : ev (.tmp 42) = .agg #[.int .i64 ag', .int .i64 id', .int .i64 ph', .int .i64 cl', .int .i64 si'] := hd 5 42 (by kernel_rfl)
        clear hfr hd
        have hbb : Below w3.heap.size w3 xw := hb
        show OpOk _ _ ev xw fun v w' => Bl xw w' ∧ v = .int .i64 (startV l ph' si')
        unfold OpOk
        go_simp
        exact (start_any sp sg A c n l ag' id' ph' cl' si' xw hn (hI3.grow hb) hl hph' hsi').mono fun e w'' ⟨he, hw⟩ => by first | exact ⟨he, hw⟩ | exact ⟨hw, he⟩ | exact ⟨_, he, hw, rfl⟩
      refine steps_cons (Bl.refl) (fun ev xw hb hc hf hfr hd hr => ?_) ?_
      · have e40 : ev (.tmp 40) = .int .i64 (startV l ph si) := hd 3 40 (by kernel_rfl)
        have e43 : ev (.tmp 43) = .int .i64 (startV l ph' si') := hd 6 43 (by kernel_rfl)
        clear hfr hd
        have hbb : Below w3.heap.size w3 xw := hb
        show OpOk _ _ ev xw fun v w' => Bl xw w' ∧ v = .int .i64 (cmpV (startV l ph si) (startV l ph' si'))
        unfold OpOk
        go_simp
        exact (cmp_any _ _ xw).mono fun e w'' ⟨he, hw⟩ => by first | exact ⟨he, hw⟩ | exact ⟨hw, he⟩ | exact ⟨_, he, hw, rfl⟩
      refine steps_cons (Bl.refl) (fun ev xw hb hc hf hfr hd hr => ?_) ?_
      · have e8 : ev (.tmp 8) = .pointer (some ⟨gA, 0, none⟩) := hfr 8 (by kernel_rfl)
        clear hfr hd
        have hbb : Below w3.heap.size w3 xw := hb
        show OpOk _ _ ev xw fun v w' => Bl xw w' ∧ v = .pointer (some ⟨gA, 0, none⟩)
        unfold OpOk
        go_simp
        all_goals first | done | exact hr | exact ⟨hr, rfl⟩
      refine steps_cons (Bl.refl) (fun ev xw hb hc hf hfr hd hr => ?_) ?_
      · have e45 : ev (.tmp 45) = .pointer (some ⟨gA, 0, none⟩) := hd 8 45 (by kernel_rfl)
        clear hfr hd
        have hbb : Below w3.heap.size w3 xw := hb
        show OpOk _ _ ev xw fun v w' => Bl xw w' ∧ v = .int .i64 ag
        unfold OpOk
        go_simp
        all_goals first | done | exact hr | exact ⟨hr, rfl⟩
      refine steps_cons (Bl.refl) (fun ev xw hb hc hf hfr hd hr => ?_) ?_
      · have e9 : ev (.tmp 9) = .pointer (some ⟨gB, 0, none⟩) := hfr 9 (by kernel_rfl)
        clear hfr hd
        have hbb : Below w3.heap.size w3 xw := hb
        show OpOk _ _ ev xw fun v w' => Bl xw w' ∧ v = .pointer (some ⟨gB, 0, none⟩)
        unfold OpOk
        go_simp
        all_goals first | done | exact hr | exact ⟨hr, rfl⟩
      refine steps_cons (Bl.refl) (fun ev xw hb hc hf hfr hd hr => ?_) ?_
      · have e47 : ev (.tmp 47) = .pointer (some ⟨gB, 0, none⟩) := hd 10 47 (by kernel_rfl)
        clear hfr hd
        have hbb : Below w3.heap.size w3 xw := hb
        show OpOk _ _ ev xw fun v w' => Bl xw w' ∧ v = .int .i64 ag'
        unfold OpOk
        go_simp
        all_goals first | done | exact hr | exact ⟨hr, rfl⟩
      refine steps_cons (Bl.refl) (fun ev xw hb hc hf hfr hd hr => ?_) ?_
      · have e46 : ev (.tmp 46) = .int .i64 ag := hd 9 46 (by kernel_rfl)
        have e48 : ev (.tmp 48) = .int .i64 ag' := hd 11 48 (by kernel_rfl)
        clear hfr hd
        have hbb : Below w3.heap.size w3 xw := hb
        show OpOk _ _ ev xw fun v w' => Bl xw w' ∧ v = .int .i64 (cmpV ag ag')
        unfold OpOk
        go_simp
        exact (cmp_any _ _ xw).mono fun e w'' ⟨he, hw⟩ => by first | exact ⟨he, hw⟩ | exact ⟨hw, he⟩ | exact ⟨_, he, hw, rfl⟩
      refine steps_cons (Bl.refl) (fun ev xw hb hc hf hfr hd hr => ?_) ?_
      · have e8 : ev (.tmp 8) = .pointer (some ⟨gA, 0, none⟩) := hfr 8 (by kernel_rfl)
        clear hfr hd
        have hbb : Below w3.heap.size w3 xw := hb
        show OpOk _ _ ev xw fun v w' => Bl xw w' ∧ v = .pointer (some ⟨gA, 1, none⟩)
        unfold OpOk
        go_simp
        all_goals first | done | exact hr | exact ⟨hr, rfl⟩
      refine steps_cons (Bl.refl) (fun ev xw hb hc hf hfr hd hr => ?_) ?_
      · have e50 : ev (.tmp 50) = .pointer (some ⟨gA, 1, none⟩) := hd 13 50 (by kernel_rfl)
        clear hfr hd
        have hbb : Below w3.heap.size w3 xw := hb
        show OpOk _ _ ev xw fun v w' => Bl xw w' ∧ v = .int .i64 id
        unfold OpOk
        go_simp
        all_goals first | done | exact hr | exact ⟨hr, rfl⟩
      refine steps_cons (Bl.refl) (fun ev xw hb hc hf hfr hd hr => ?_) ?_
      · have e9 : ev (.tmp 9) = .pointer (some ⟨gB, 0, none⟩) := hfr 9 (by kernel_rfl)
        clear hfr hd
        have hbb : Below w3.heap.size w3 xw := hb
        show OpOk _ _ ev xw fun v w' => Bl xw w' ∧ v = .pointer (some ⟨gB, 1, none⟩)
        unfold OpOk
        go_simp
        all_goals first | done | exact hr | exact ⟨hr, rfl⟩
      refine steps_cons (Bl.refl) (fun ev xw hb hc hf hfr hd hr => ?_) ?_
      · have e52 : ev (.tmp 52) = .pointer (some ⟨gB, 1, none⟩) := hd 15 52 (by kernel_rfl)
        clear hfr hd
        have hbb : Below w3.heap.size w3 xw := hb
        show OpOk _ _ ev xw fun v w' => Bl xw w' ∧ v = .int .i64 id'
        unfold OpOk
        go_simp
        all_goals first | done | exact hr | exact ⟨hr, rfl⟩
      refine steps_cons (Bl.refl) (fun ev xw hb hc hf hfr hd hr => ?_) ?_
      · have e51 : ev (.tmp 51) = .int .i64 id := hd 14 51 (by kernel_rfl)
        have e53 : ev (.tmp 53) = .int .i64 id' := hd 16 53 (by kernel_rfl)
        clear hfr hd
        have hbb : Below w3.heap.size w3 xw := hb
        show OpOk _ _ ev xw fun v w' => Bl xw w' ∧ v = .int .i64 (cmpV id id')
        unfold OpOk
        go_simp
        exact (cmp_any _ _ xw).mono fun e w'' ⟨he, hw⟩ => by first | exact ⟨he, hw⟩ | exact ⟨hw, he⟩ | exact ⟨_, he, hw, rfl⟩
      refine steps_cons (Bl.refl) (fun ev xw hb hc hf hfr hd hr => ?_) ?_
      · have e37 : ev (.tmp 37) = .int .i64 wt := hd 0 37 (by kernel_rfl)
        have e44 : ev (.tmp 44) = .int .i64 (cmpV (startV l ph si) (startV l ph' si')) := hd 7 44 (by kernel_rfl)
        have e49 : ev (.tmp 49) = .int .i64 (cmpV ag ag') := hd 12 49 (by kernel_rfl)
        have e54 : ev (.tmp 54) = .int .i64 (cmpV id id') := hd 17 54 (by kernel_rfl)
        clear hfr hd
        have hbb : Below w3.heap.size w3 xw := hb
        show OpOk _ _ ev xw fun v w' => Bl xw w' ∧ ∃ g, v = .slice (some ⟨g, 0, none⟩) 4 4 ∧ Ints .i64 w' w'.heap.size (some ⟨g, 0, none⟩) [wt, cmpV (startV l ph si) (startV l ph' si'), cmpV ag ag', cmpV id id']
        unfold OpOk
        go_simp
        have I := ints_new (k := .i64) (w := xw) (C := #[.int .i64 wt, .int .i64 (cmpV (startV l ph si) (startV l ph' si')), .int .i64 (cmpV ag ag'), .int .i64 (cmpV id id')]) (T := 3) (f := (0, 0)) (l := [wt, cmpV (startV l ph si) (startV l ph' si'), cmpV ag ag', cmpV id id']) (fun i hi => by simp at hi; rcases i with _ | _ | _ | _ | i <;> first | rfl | omega)
        rw [heap_size] at I
        exact ⟨lat_alloc (Below.refl _ _) _, I⟩
      refine steps_cons (Bl.refl) (fun ev xw hb hc hf hfr hd hr => ?_) ?_
      · obtain ⟨g55, e55, I55⟩ : ∃ g, ev (.tmp 55) = .slice (some ⟨g, 0, none⟩) 4 4 ∧ Ints .i64 xw xw.heap.size (some ⟨g, 0, none⟩) [wt, cmpV (startV l ph si) (startV l ph' si'), cmpV ag ag', cmpV id id'] := hd 18 55 (by kernel_rfl)
        clear hfr hd
        have hbb : Below w3.heap.size w3 xw := hb
        show OpOk _ _ ev xw fun v w' => Bl xw w' ∧ v = .int .i64 (orV [wt, cmpV (startV l ph si) (startV l ph' si'), cmpV ag ag', cmpV id id'])
        unfold OpOk
        go_simp
        exact (or_any _ _ 4 _ xw rfl I55 (by omega)).mono fun e w'' ⟨he, hw⟩ => by first | exact ⟨he, hw⟩ | exact ⟨hw, he⟩ | exact ⟨_, he, hw, rfl⟩
      refine steps_cons (Bl.refl) (fun ev xw hb hc hf hfr hd hr => ?_) ?_
      · have e56 : ev (.tmp 56) = .int .i64 (orV [wt, cmpV (startV l ph si) (startV l ph' si'), cmpV ag ag', cmpV id id']) := hd 19 56 (by kernel_rfl)
        clear hfr hd
        have hbb : Below w3.heap.size w3 xw := hb
        show OpOk _ _ ev xw fun v w' => Bl xw w' ∧ v = .bool (decide (orV [wt, cmpV (startV l ph si) (startV l ph' si'), cmpV ag ag', cmpV id id'] < 0))
        unfold OpOk
        go_simp
        all_goals first | done | exact hr | exact ⟨hr, rfl⟩
      exact steps_nil
    · intro vs w5 hb5 hk
      have k0 : vs 20 = .bool (decide (orV [wt, cmpV (startV l ph si) (startV l ph' si'), cmpV ag ag', cmpV id id'] < 0)) := hk 20 (by omega)
      clear hk
      simp only [List.take_succ_cons, List.take_zero, List.drop_succ_cons, List.drop_zero, putAll, Act.put, List.setIfInBounds_toArray, List.set_cons_zero, List.set_cons_succ, k0, Nat.reduceAdd]
      clear k0
      have hb5' : Below w3.heap.size w3 w5 := hb5
      go_wp2
      go_ret
      exact ⟨ret_b HM.out, b3.trans (hb5'.mono b3.size)⟩
   | true =>
    have HA := Lib.hid ha
    have HB := Lib.hid hb0
    clear ha hb0
    have q0 := B2.laterN 0 rfl
    have q1 := B2.laterN 1 rfl
    have q2 := B2.laterN 2 rfl
    have q3 := B2.laterN 3 rfl
    have q4 := B2.laterN 4 rfl
    have r0 := B3.laterN 0 rfl
    have r1 := B3.laterN 1 rfl
    have r2 := B3.laterN 2 rfl
    have r3 := B3.laterN 3 rfl
    have r4 := B3.laterN 4 rfl
    refine wp_region_grow (by kernel_rfl) (by kernel_rfl) ?_
    repeat' (first
        | go_big_quiet_skip
        | (go_big_quiet_want; first
            | (go_big_quiet_op; go_big_quiet_on)
            | (refine quiet_det ?_; apply Exists.intro; refine ⟨fun w' hC => ?_, ?_⟩; (go_simp <;> (first | rfl | exact ⟨rfl, rfl⟩)); apply Exists.intro; refine ⟨?_, ?_⟩; (go_simp <;> (first | rfl | exact ⟨rfl, rfl⟩)); go_big_quiet_on)
            | (show Oper.quiet _ { dst := _, op := .call { callee := .value _, args := _, argTypes := _ }, type := _, pos := _, after := _, guard := _ } _ _ _; refine quiet_call ?_; apply Exists.intro; apply Exists.intro; refine ⟨fun w' hC => ?_, ?_⟩; (go_simp <;> (first | rfl | exact ⟨rfl, rfl⟩)); apply Exists.intro; refine ⟨fun w' hC => ?_, ?_⟩; (first
                | with_reducible exact grow_call (em_of HA.out ag id ph si w') hC
                | with_reducible exact grow_call (em_of HB.out ag' id' ph' si' w') hC
                | fail); apply Exists.intro; refine ⟨?_, ?_⟩; (go_simp <;> (first | rfl | exact ⟨rfl, rfl⟩)); go_big_quiet_on)))
    all_goals refine wpQuiet_nil ?_
    intro w1 hw1
    have b1 := bW.trans (hw1.mono bW.size)
    clear q0 q1 q2 q3 q4 r0 r1 r2 r3 r4
    have D0 := B0.below hw1
    have D1 := B1.below hw1
    have D2 := B2.below hw1
    have D3 := B3.below hw1
    have hI1 := hI.grow hw1
    have HM := Lib.hid (show false = lexB (keyL per cap l ag id ph cl si now) (keyL per cap l ag' id' ph' cl' si' now) by simp [lexB, keyL, HA.out, HB.out])
    have q0 := D2.cell 0
    have q1 := D2.cell 1
    have q2 := D2.cell 2
    have q3 := D2.cell 3
    have q4 := D2.cell 4
    go_wp2_with (refine (em_of HA.out ag id ph si _).mono ?_; rintro e w2 ⟨rfl, hb2⟩)
    go_ret
    exact ⟨ret_b HM.out, b1.trans (hb2.mono b1.size)⟩
  | true =>
   cases hb0 : emB cl' with
   | false =>
    have HA := Lib.hid ha
    have HB := Lib.hid hb0
    clear ha hb0
    have q0 := B2.laterN 0 rfl
    have q1 := B2.laterN 1 rfl
    have q2 := B2.laterN 2 rfl
    have q3 := B2.laterN 3 rfl
    have q4 := B2.laterN 4 rfl
    have r0 := B3.laterN 0 rfl
    have r1 := B3.laterN 1 rfl
    have r2 := B3.laterN 2 rfl
    have r3 := B3.laterN 3 rfl
    have r4 := B3.laterN 4 rfl
    refine wp_region_grow (by kernel_rfl) (by kernel_rfl) ?_
    repeat' (first
        | go_big_quiet_skip
        | (go_big_quiet_want; first
            | (go_big_quiet_op; go_big_quiet_on)
            | (refine quiet_det ?_; apply Exists.intro; refine ⟨fun w' hC => ?_, ?_⟩; (go_simp <;> (first | rfl | exact ⟨rfl, rfl⟩)); apply Exists.intro; refine ⟨?_, ?_⟩; (go_simp <;> (first | rfl | exact ⟨rfl, rfl⟩)); go_big_quiet_on)
            | (show Oper.quiet _ { dst := _, op := .call { callee := .value _, args := _, argTypes := _ }, type := _, pos := _, after := _, guard := _ } _ _ _; refine quiet_call ?_; apply Exists.intro; apply Exists.intro; refine ⟨fun w' hC => ?_, ?_⟩; (go_simp <;> (first | rfl | exact ⟨rfl, rfl⟩)); apply Exists.intro; refine ⟨fun w' hC => ?_, ?_⟩; (first
                | with_reducible exact grow_call (em_of HA.out ag id ph si w') hC
                | with_reducible exact grow_call (em_of HB.out ag' id' ph' si' w') hC
                | fail); apply Exists.intro; refine ⟨?_, ?_⟩; (go_simp <;> (first | rfl | exact ⟨rfl, rfl⟩)); go_big_quiet_on)))
    all_goals refine wpQuiet_nil ?_
    intro w1 hw1
    have b1 := bW.trans (hw1.mono bW.size)
    clear q0 q1 q2 q3 q4 r0 r1 r2 r3 r4
    have D0 := B0.below hw1
    have D1 := B1.below hw1
    have D2 := B2.below hw1
    have D3 := B3.below hw1
    have hI1 := hI.grow hw1
    have HM := Lib.hid (show true = lexB (keyL per cap l ag id ph cl si now) (keyL per cap l ag' id' ph' cl' si' now) by simp [lexB, keyL, HA.out, HB.out])
    have q0 := D2.cell 0
    have q1 := D2.cell 1
    have q2 := D2.cell 2
    have q3 := D2.cell 3
    have q4 := D2.cell 4
    go_wp2_with (refine (em_of HA.out ag id ph si _).mono ?_; rintro e w2 ⟨rfl, hb2⟩)
    go_ret
    exact ⟨ret_b HM.out, b1.trans (hb2.mono b1.size)⟩
   | true =>
    have HA := Lib.hid ha
    have HB := Lib.hid hb0
    clear ha hb0
    have q0 := B2.laterN 0 rfl
    have q1 := B2.laterN 1 rfl
    have q2 := B2.laterN 2 rfl
    have q3 := B2.laterN 3 rfl
    have q4 := B2.laterN 4 rfl
    have r0 := B3.laterN 0 rfl
    have r1 := B3.laterN 1 rfl
    have r2 := B3.laterN 2 rfl
    have r3 := B3.laterN 3 rfl
    have r4 := B3.laterN 4 rfl
    refine wp_region_grow (by kernel_rfl) (by kernel_rfl) ?_
    repeat' (first
        | go_big_quiet_skip
        | (go_big_quiet_want; first
            | (go_big_quiet_op; go_big_quiet_on)
            | (refine quiet_det ?_; apply Exists.intro; refine ⟨fun w' hC => ?_, ?_⟩; (go_simp <;> (first | rfl | exact ⟨rfl, rfl⟩)); apply Exists.intro; refine ⟨?_, ?_⟩; (go_simp <;> (first | rfl | exact ⟨rfl, rfl⟩)); go_big_quiet_on)
            | (show Oper.quiet _ { dst := _, op := .call { callee := .value _, args := _, argTypes := _ }, type := _, pos := _, after := _, guard := _ } _ _ _; refine quiet_call ?_; apply Exists.intro; apply Exists.intro; refine ⟨fun w' hC => ?_, ?_⟩; (go_simp <;> (first | rfl | exact ⟨rfl, rfl⟩)); apply Exists.intro; refine ⟨fun w' hC => ?_, ?_⟩; (first
                | with_reducible exact grow_call (em_of HA.out ag id ph si w') hC
                | with_reducible exact grow_call (em_of HB.out ag' id' ph' si' w') hC
                | fail); apply Exists.intro; refine ⟨?_, ?_⟩; (go_simp <;> (first | rfl | exact ⟨rfl, rfl⟩)); go_big_quiet_on)))
    all_goals refine wpQuiet_nil ?_
    intro w1 hw1
    have b1 := bW.trans (hw1.mono bW.size)
    clear q0 q1 q2 q3 q4 r0 r1 r2 r3 r4
    have D0 := B0.below hw1
    have D1 := B1.below hw1
    have D2 := B2.below hw1
    have D3 := B3.below hw1
    have hI1 := hI.grow hw1
    go_wp2_with fail
    have w1e := HW1.out
    have o0 := D0.laterN 0 rfl
    have o1 := D0.laterN 1 rfl
    have o2 := D0.laterN 2 rfl
    have o3 := D0.laterN 3 rfl
    have o4 := D0.laterN 4 rfl
    have o5 := D0.laterN 5 rfl
    have p0 := D1.laterN 0 rfl
    have p1 := D1.laterN 1 rfl
    have p2 := D1.laterN 2 rfl
    have q0 := D2.laterN 0 rfl
    have q1 := D2.laterN 1 rfl
    have q2 := D2.laterN 2 rfl
    have q3 := D2.laterN 3 rfl
    have q4 := D2.laterN 4 rfl
    have r0 := D3.laterN 0 rfl
    have r1 := D3.laterN 1 rfl
    have r2 := D3.laterN 2 rfl
    have r3 := D3.laterN 3 rfl
    have r4 := D3.laterN 4 rfl
    refine wp_region_grow (by kernel_rfl) (by kernel_rfl) ?_
    repeat' (first
        | go_big_quiet_skip
        | (go_big_quiet_want; first
            | (go_big_quiet_op; go_big_quiet_on)
            | (refine quiet_det ?_; apply Exists.intro; refine ⟨fun w' hC => ?_, ?_⟩; (go_simp <;> (first | rfl | exact ⟨rfl, rfl⟩)); apply Exists.intro; refine ⟨?_, ?_⟩; (go_simp <;> (first | rfl | exact ⟨rfl, rfl⟩)); go_big_quiet_on)
            | (show Oper.quiet _ { dst := _, op := .call { callee := .value _, args := _, argTypes := _ }, type := _, pos := _, after := _, guard := _ } _ _ _; refine quiet_call ?_; apply Exists.intro; apply Exists.intro; refine ⟨fun w' hC => ?_, ?_⟩; (go_simp <;> (first | rfl | exact ⟨rfl, rfl⟩)); apply Exists.intro; refine ⟨fun w' hC => ?_, ?_⟩; (first
                | with_reducible exact grow_call (level_any per cap hold lock sp sg A c n l ag id ph cl si now w' hn (hI1.grow hC) hl hS hper hcap hlock hph hcl hsi hnow) hC
                | with_reducible exact grow_call (level_any per cap hold lock sp sg A c n l ag' id' ph' cl' si' now w' hn (hI1.grow hC) hl hS hper hcap hlock hph' hcl' hsi' hnow) hC
                | fail); apply Exists.intro; refine ⟨?_, ?_⟩; (go_simp <;> (first | rfl | exact ⟨rfl, rfl⟩)); go_big_quiet_on)))
    all_goals refine wpQuiet_nil ?_
    intro w2 hw2
    clear o0 o1 o2 o3 o4 o5 p0 p1 p2 q0 q1 q2 q3 q4 r0 r1 r2 r3 r4 w1e
    have b2 := b1.trans (hw2.mono b1.size)
    have E1 := D1.below hw2
    have E2 := D2.below hw2
    have E3 := D3.below hw2
    have hI2 := hI1.grow hw2
    clear D0 D1 D2 D3 B0 B1 B2 B3
    have q0 := E2.cell 0
    have q1 := E2.cell 1
    have q2 := E2.cell 2
    have q3 := E2.cell 3
    have q4 := E2.cell 4
    go_wp2_with fail
    refine (em_of HA.out ag id ph si _).mono ?_; rintro e w3 ⟨rfl, hb3⟩
    have b3 := b2.trans (hb3.mono b2.size)
    have F1 := E1.below hb3
    have F2 := E2.below hb3
    have F3 := E3.below hb3
    have hI3 := hI2.grow hb3
    clear q0 q1 q2 q3 q4 E1 E2 E3
    have q3 := F2.cell 3
    have r3 := F3.cell 3
    go_wp2_with fail
    clear q3 r3
    have p0 := F1.laterN 0 rfl
    have p1 := F1.laterN 1 rfl
    have p2 := F1.laterN 2 rfl
    have q0 := F2.laterN 0 rfl
    have q1 := F2.laterN 1 rfl
    have q2 := F2.laterN 2 rfl
    have q3 := F2.laterN 3 rfl
    have q4 := F2.laterN 4 rfl
    have r0 := F3.laterN 0 rfl
    have r1 := F3.laterN 1 rfl
    have r2 := F3.laterN 2 rfl
    have r3 := F3.laterN 3 rfl
    have r4 := F3.laterN 4 rfl
    have HM := Lib.hid (show decide (orV [cl' - cl, cmpV (startV l ph si) (startV l ph' si'), cmpV ag ag', cmpV id id'] < 0) = lexB (keyL per cap l ag id ph cl si now) (keyL per cap l ag' id' ph' cl' si' now) by
      rw [less_math 0 (-cl) (-cl') _ _ _ _ _ _ _ (by omega)]; simp [keyL, HA.out, HB.out])
    generalize hwt : cl' - cl = wt at HM ⊢
    clear hwt
    refine wp_region_pre (R := Bl) 21 58 [fun v _ => v = .int .i64 wt, fun v _ => v = .agg #[.int .i64 sp, .int .i64 sg, .slice A n c], fun v _ => v = .agg #[.int .i64 ag, .int .i64 id, .int .i64 ph, .int .i64 cl, .int .i64 si], fun v _ => v = .int .i64 (startV l ph si), fun v _ => v = .agg #[.int .i64 sp, .int .i64 sg, .slice A n c], fun v _ => v = .agg #[.int .i64 ag', .int .i64 id', .int .i64 ph', .int .i64 cl', .int .i64 si'], fun v _ => v = .int .i64 (startV l ph' si'), fun v _ => v = .int .i64 (cmpV (startV l ph si) (startV l ph' si')), fun v _ => v = .pointer (some ⟨gA, 0, none⟩), fun v _ => v = .int .i64 ag, fun v _ => v = .pointer (some ⟨gB, 0, none⟩), fun v _ => v = .int .i64 ag', fun v _ => v = .int .i64 (cmpV ag ag'), fun v _ => v = .pointer (some ⟨gA, 1, none⟩), fun v _ => v = .int .i64 id, fun v _ => v = .pointer (some ⟨gB, 1, none⟩), fun v _ => v = .int .i64 id', fun v _ => v = .int .i64 (cmpV id id'), fun v w => ∃ g, v = .slice (some ⟨g, 0, none⟩) 4 4 ∧ Ints .i64 w w.heap.size (some ⟨g, 0, none⟩) [wt, cmpV (startV l ph si) (startV l ph' si'), cmpV ag ag', cmpV id id'], fun v _ => v = .int .i64 (orV [wt, cmpV (startV l ph si) (startV l ph' si'), cmpV ag ag', cmpV id id']), fun v _ => v = .bool (decide (orV [wt, cmpV (startV l ph si) (startV l ph' si'), cmpV ag ag', cmpV id id'] < 0))] (Bl.trans) (Bl.drew) (by kernel_rfl) (fun _ _ d _ _ h => by cases d <;> exact h) rfl (by kernel_rfl) (stay_cons (stays_v _) (stay_cons (stays_v _) (stay_cons (stays_v _) (stay_cons (stays_v _) (stay_cons (stays_v _) (stay_cons (stays_v _) (stay_cons (stays_v _) (stay_cons (stays_v _) (stay_cons (stays_v _) (stay_cons (stays_v _) (stay_cons (stays_v _) (stay_cons (stays_v _) (stay_cons (stays_v _) (stay_cons (stays_v _) (stay_cons (stays_v _) (stay_cons (stays_v _) (stay_cons (stays_v _) (stay_cons (stays_v _) (stay_cons (fun _ _ _ ⟨g, h1, h2⟩ hb => ⟨g, h1, Ints.grow h2 hb⟩) (stay_cons (stays_v _) (stay_cons (stays_v _) (stay_nil)))))))))))))))))))))) ?_ ?_
    · simp only [List.take_succ_cons, List.take_zero]
      refine steps_cons (Bl.refl) (fun ev xw hb hc hf hfr hd hr => ?_) ?_
      · have e11 : ev (.tmp 11) = .int .i64 wt := hfr 11 (by kernel_rfl)
        clear hfr hd
        have hbb : Below w3.heap.size w3 xw := hb
        show OpOk _ _ ev xw fun v w' => Bl xw w' ∧ v = .int .i64 wt
        unfold OpOk
        go_simp
        all_goals first | done | exact hr | exact ⟨hr, rfl⟩
      refine steps_cons (Bl.refl) (fun ev xw hb hc hf hfr hd hr => ?_) ?_
      · have e6 : ev (.tmp 6) = .pointer (some ⟨gS, 0, none⟩) := hfr 6 (by kernel_rfl)
        clear hfr hd
        have hbb : Below w3.heap.size w3 xw := hb
        show OpOk _ _ ev xw fun v w' => Bl xw w' ∧ v = .agg #[.int .i64 sp, .int .i64 sg, .slice A n c]
        unfold OpOk
        go_simp
        all_goals first | done | exact hr | exact ⟨hr, rfl⟩
      refine steps_cons (Bl.refl) (fun ev xw hb hc hf hfr hd hr => ?_) ?_
      · have e8 : ev (.tmp 8) = .pointer (some ⟨gA, 0, none⟩) := hfr 8 (by kernel_rfl)
        clear hfr hd
        have hbb : Below w3.heap.size w3 xw := hb
        show OpOk _ _ ev xw fun v w' => Bl xw w' ∧ v = .agg #[.int .i64 ag, .int .i64 id, .int .i64 ph, .int .i64 cl, .int .i64 si]
        unfold OpOk
        go_simp
        all_goals first | done | exact hr | exact ⟨hr, rfl⟩
      refine steps_cons (Bl.refl) (fun ev xw hb hc hf hfr hd hr => ?_) ?_
      · have e38 : ev (.tmp 38) = .agg #[.int .i64 sp, .int .i64 sg, .slice A n c] := hd 1 38 (by kernel_rfl)
        have e39 : ev (.tmp 39) = .agg #[.int .i64 ag, .int .i64 id, .int .i64 ph, .int .i64 cl, .int .i64 si] := hd 2 39 (by kernel_rfl)
        clear hfr hd
        have hbb : Below w3.heap.size w3 xw := hb
        show OpOk _ _ ev xw fun v w' => Bl xw w' ∧ v = .int .i64 (startV l ph si)
        unfold OpOk
        go_simp
        exact (start_any sp sg A c n l ag id ph cl si xw hn (hI3.grow hb) hl hph hsi).mono fun e w'' ⟨he, hw⟩ => by first | exact ⟨he, hw⟩ | exact ⟨hw, he⟩ | exact ⟨_, he, hw, rfl⟩
      refine steps_cons (Bl.refl) (fun ev xw hb hc hf hfr hd hr => ?_) ?_
      · have e6 : ev (.tmp 6) = .pointer (some ⟨gS, 0, none⟩) := hfr 6 (by kernel_rfl)
        clear hfr hd
        have hbb : Below w3.heap.size w3 xw := hb
        show OpOk _ _ ev xw fun v w' => Bl xw w' ∧ v = .agg #[.int .i64 sp, .int .i64 sg, .slice A n c]
        unfold OpOk
        go_simp
        all_goals first | done | exact hr | exact ⟨hr, rfl⟩
      refine steps_cons (Bl.refl) (fun ev xw hb hc hf hfr hd hr => ?_) ?_
      · have e9 : ev (.tmp 9) = .pointer (some ⟨gB, 0, none⟩) := hfr 9 (by kernel_rfl)
        clear hfr hd
        have hbb : Below w3.heap.size w3 xw := hb
        show OpOk _ _ ev xw fun v w' => Bl xw w' ∧ v = .agg #[.int .i64 ag', .int .i64 id', .int .i64 ph', .int .i64 cl', .int .i64 si']
        unfold OpOk
        go_simp
        all_goals first | done | exact hr | exact ⟨hr, rfl⟩
      refine steps_cons (Bl.refl) (fun ev xw hb hc hf hfr hd hr => ?_) ?_
      · have e41 : ev (.tmp 41) = .agg #[.int .i64 sp, .int .i64 sg, .slice A n c] := hd 4 41 (by kernel_rfl)
        have e42 : ev (.tmp 42) = .agg #[.int .i64 ag', .int .i64 id', .int .i64 ph', .int .i64 cl', .int .i64 si'] := hd 5 42 (by kernel_rfl)
        clear hfr hd
        have hbb : Below w3.heap.size w3 xw := hb
        show OpOk _ _ ev xw fun v w' => Bl xw w' ∧ v = .int .i64 (startV l ph' si')
        unfold OpOk
        go_simp
        exact (start_any sp sg A c n l ag' id' ph' cl' si' xw hn (hI3.grow hb) hl hph' hsi').mono fun e w'' ⟨he, hw⟩ => by first | exact ⟨he, hw⟩ | exact ⟨hw, he⟩ | exact ⟨_, he, hw, rfl⟩
      refine steps_cons (Bl.refl) (fun ev xw hb hc hf hfr hd hr => ?_) ?_
      · have e40 : ev (.tmp 40) = .int .i64 (startV l ph si) := hd 3 40 (by kernel_rfl)
        have e43 : ev (.tmp 43) = .int .i64 (startV l ph' si') := hd 6 43 (by kernel_rfl)
        clear hfr hd
        have hbb : Below w3.heap.size w3 xw := hb
        show OpOk _ _ ev xw fun v w' => Bl xw w' ∧ v = .int .i64 (cmpV (startV l ph si) (startV l ph' si'))
        unfold OpOk
        go_simp
        exact (cmp_any _ _ xw).mono fun e w'' ⟨he, hw⟩ => by first | exact ⟨he, hw⟩ | exact ⟨hw, he⟩ | exact ⟨_, he, hw, rfl⟩
      refine steps_cons (Bl.refl) (fun ev xw hb hc hf hfr hd hr => ?_) ?_
      · have e8 : ev (.tmp 8) = .pointer (some ⟨gA, 0, none⟩) := hfr 8 (by kernel_rfl)
        clear hfr hd
        have hbb : Below w3.heap.size w3 xw := hb
        show OpOk _ _ ev xw fun v w' => Bl xw w' ∧ v = .pointer (some ⟨gA, 0, none⟩)
        unfold OpOk
        go_simp
        all_goals first | done | exact hr | exact ⟨hr, rfl⟩
      refine steps_cons (Bl.refl) (fun ev xw hb hc hf hfr hd hr => ?_) ?_
      · have e45 : ev (.tmp 45) = .pointer (some ⟨gA, 0, none⟩) := hd 8 45 (by kernel_rfl)
        clear hfr hd
        have hbb : Below w3.heap.size w3 xw := hb
        show OpOk _ _ ev xw fun v w' => Bl xw w' ∧ v = .int .i64 ag
        unfold OpOk
        go_simp
        all_goals first | done | exact hr | exact ⟨hr, rfl⟩
      refine steps_cons (Bl.refl) (fun ev xw hb hc hf hfr hd hr => ?_) ?_
      · have e9 : ev (.tmp 9) = .pointer (some ⟨gB, 0, none⟩) := hfr 9 (by kernel_rfl)
        clear hfr hd
        have hbb : Below w3.heap.size w3 xw := hb
        show OpOk _ _ ev xw fun v w' => Bl xw w' ∧ v = .pointer (some ⟨gB, 0, none⟩)
        unfold OpOk
        go_simp
        all_goals first | done | exact hr | exact ⟨hr, rfl⟩
      refine steps_cons (Bl.refl) (fun ev xw hb hc hf hfr hd hr => ?_) ?_
      · have e47 : ev (.tmp 47) = .pointer (some ⟨gB, 0, none⟩) := hd 10 47 (by kernel_rfl)
        clear hfr hd
        have hbb : Below w3.heap.size w3 xw := hb
        show OpOk _ _ ev xw fun v w' => Bl xw w' ∧ v = .int .i64 ag'
        unfold OpOk
        go_simp
        all_goals first | done | exact hr | exact ⟨hr, rfl⟩
      refine steps_cons (Bl.refl) (fun ev xw hb hc hf hfr hd hr => ?_) ?_
      · have e46 : ev (.tmp 46) = .int .i64 ag := hd 9 46 (by kernel_rfl)
        have e48 : ev (.tmp 48) = .int .i64 ag' := hd 11 48 (by kernel_rfl)
        clear hfr hd
        have hbb : Below w3.heap.size w3 xw := hb
        show OpOk _ _ ev xw fun v w' => Bl xw w' ∧ v = .int .i64 (cmpV ag ag')
        unfold OpOk
        go_simp
        exact (cmp_any _ _ xw).mono fun e w'' ⟨he, hw⟩ => by first | exact ⟨he, hw⟩ | exact ⟨hw, he⟩ | exact ⟨_, he, hw, rfl⟩
      refine steps_cons (Bl.refl) (fun ev xw hb hc hf hfr hd hr => ?_) ?_
      · have e8 : ev (.tmp 8) = .pointer (some ⟨gA, 0, none⟩) := hfr 8 (by kernel_rfl)
        clear hfr hd
        have hbb : Below w3.heap.size w3 xw := hb
        show OpOk _ _ ev xw fun v w' => Bl xw w' ∧ v = .pointer (some ⟨gA, 1, none⟩)
        unfold OpOk
        go_simp
        all_goals first | done | exact hr | exact ⟨hr, rfl⟩
      refine steps_cons (Bl.refl) (fun ev xw hb hc hf hfr hd hr => ?_) ?_
      · have e50 : ev (.tmp 50) = .pointer (some ⟨gA, 1, none⟩) := hd 13 50 (by kernel_rfl)
        clear hfr hd
        have hbb : Below w3.heap.size w3 xw := hb
        show OpOk _ _ ev xw fun v w' => Bl xw w' ∧ v = .int .i64 id
        unfold OpOk
        go_simp
        all_goals first | done | exact hr | exact ⟨hr, rfl⟩
      refine steps_cons (Bl.refl) (fun ev xw hb hc hf hfr hd hr => ?_) ?_
      · have e9 : ev (.tmp 9) = .pointer (some ⟨gB, 0, none⟩) := hfr 9 (by kernel_rfl)
        clear hfr hd
        have hbb : Below w3.heap.size w3 xw := hb
        show OpOk _ _ ev xw fun v w' => Bl xw w' ∧ v = .pointer (some ⟨gB, 1, none⟩)
        unfold OpOk
        go_simp
        all_goals first | done | exact hr | exact ⟨hr, rfl⟩
      refine steps_cons (Bl.refl) (fun ev xw hb hc hf hfr hd hr => ?_) ?_
      · have e52 : ev (.tmp 52) = .pointer (some ⟨gB, 1, none⟩) := hd 15 52 (by kernel_rfl)
        clear hfr hd
        have hbb : Below w3.heap.size w3 xw := hb
        show OpOk _ _ ev xw fun v w' => Bl xw w' ∧ v = .int .i64 id'
        unfold OpOk
        go_simp
        all_goals first | done | exact hr | exact ⟨hr, rfl⟩
      refine steps_cons (Bl.refl) (fun ev xw hb hc hf hfr hd hr => ?_) ?_
      · have e51 : ev (.tmp 51) = .int .i64 id := hd 14 51 (by kernel_rfl)
        have e53 : ev (.tmp 53) = .int .i64 id' := hd 16 53 (by kernel_rfl)
        clear hfr hd
        have hbb : Below w3.heap.size w3 xw := hb
        show OpOk _ _ ev xw fun v w' => Bl xw w' ∧ v = .int .i64 (cmpV id id')
        unfold OpOk
        go_simp
        exact (cmp_any _ _ xw).mono fun e w'' ⟨he, hw⟩ => by first | exact ⟨he, hw⟩ | exact ⟨hw, he⟩ | exact ⟨_, he, hw, rfl⟩
      refine steps_cons (Bl.refl) (fun ev xw hb hc hf hfr hd hr => ?_) ?_
      · have e37 : ev (.tmp 37) = .int .i64 wt := hd 0 37 (by kernel_rfl)
        have e44 : ev (.tmp 44) = .int .i64 (cmpV (startV l ph si) (startV l ph' si')) := hd 7 44 (by kernel_rfl)
        have e49 : ev (.tmp 49) = .int .i64 (cmpV ag ag') := hd 12 49 (by kernel_rfl)
        have e54 : ev (.tmp 54) = .int .i64 (cmpV id id') := hd 17 54 (by kernel_rfl)
        clear hfr hd
        have hbb : Below w3.heap.size w3 xw := hb
        show OpOk _ _ ev xw fun v w' => Bl xw w' ∧ ∃ g, v = .slice (some ⟨g, 0, none⟩) 4 4 ∧ Ints .i64 w' w'.heap.size (some ⟨g, 0, none⟩) [wt, cmpV (startV l ph si) (startV l ph' si'), cmpV ag ag', cmpV id id']
        unfold OpOk
        go_simp
        have I := ints_new (k := .i64) (w := xw) (C := #[.int .i64 wt, .int .i64 (cmpV (startV l ph si) (startV l ph' si')), .int .i64 (cmpV ag ag'), .int .i64 (cmpV id id')]) (T := 3) (f := (0, 0)) (l := [wt, cmpV (startV l ph si) (startV l ph' si'), cmpV ag ag', cmpV id id']) (fun i hi => by simp at hi; rcases i with _ | _ | _ | _ | i <;> first | rfl | omega)
        rw [heap_size] at I
        exact ⟨lat_alloc (Below.refl _ _) _, I⟩
      refine steps_cons (Bl.refl) (fun ev xw hb hc hf hfr hd hr => ?_) ?_
      · obtain ⟨g55, e55, I55⟩ : ∃ g, ev (.tmp 55) = .slice (some ⟨g, 0, none⟩) 4 4 ∧ Ints .i64 xw xw.heap.size (some ⟨g, 0, none⟩) [wt, cmpV (startV l ph si) (startV l ph' si'), cmpV ag ag', cmpV id id'] := hd 18 55 (by kernel_rfl)
        clear hfr hd
        have hbb : Below w3.heap.size w3 xw := hb
        show OpOk _ _ ev xw fun v w' => Bl xw w' ∧ v = .int .i64 (orV [wt, cmpV (startV l ph si) (startV l ph' si'), cmpV ag ag', cmpV id id'])
        unfold OpOk
        go_simp
        exact (or_any _ _ 4 _ xw rfl I55 (by omega)).mono fun e w'' ⟨he, hw⟩ => by first | exact ⟨he, hw⟩ | exact ⟨hw, he⟩ | exact ⟨_, he, hw, rfl⟩
      refine steps_cons (Bl.refl) (fun ev xw hb hc hf hfr hd hr => ?_) ?_
      · have e56 : ev (.tmp 56) = .int .i64 (orV [wt, cmpV (startV l ph si) (startV l ph' si'), cmpV ag ag', cmpV id id']) := hd 19 56 (by kernel_rfl)
        clear hfr hd
        have hbb : Below w3.heap.size w3 xw := hb
        show OpOk _ _ ev xw fun v w' => Bl xw w' ∧ v = .bool (decide (orV [wt, cmpV (startV l ph si) (startV l ph' si'), cmpV ag ag', cmpV id id'] < 0))
        unfold OpOk
        go_simp
        all_goals first | done | exact hr | exact ⟨hr, rfl⟩
      exact steps_nil
    · intro vs w5 hb5 hk
      have k0 : vs 20 = .bool (decide (orV [wt, cmpV (startV l ph si) (startV l ph' si'), cmpV ag ag', cmpV id id'] < 0)) := hk 20 (by omega)
      clear hk
      simp only [List.take_succ_cons, List.take_zero, List.drop_succ_cons, List.drop_zero, putAll, Act.put, List.setIfInBounds_toArray, List.set_cons_zero, List.set_cons_succ, k0, Nat.reduceAdd]
      clear k0
      have hb5' : Below w3.heap.size w3 w5 := hb5
      go_wp2
      go_ret
      exact ⟨ret_b HM.out, b3.trans (hb5'.mono b3.size)⟩
end Go.Proofs.Ytikffoepndpfjaa
