/-
  Which claims of a list are served, are urgent, or are both. Conditions: the list is in memory.
-/
import Derived.Test.YtikffoepndpfjaaRe
namespace Go.Proofs.Ytikffoepndpfjaa
open Go.ChangeShapes Go.WideShapes Go.RowKit
set_option linter.unusedVariables false

def idxC (p : Cl → Bool) : List Cl → Nat → Int
  | [], _ => -1
  | x :: C, k => if p x = true then k else idxC p C (k + 1)
theorem idxC_any (p : Cl → Bool) : ∀ (C : List Cl) (k : Nat), decide (idxC p C k ≥ 0) = C.any p
  | [], k => by simp [idxC]
  | x :: C, k => by
    unfold idxC
    rw [List.any_cons]
    split
    · rename_i h; rw [h]; simp
    · rename_i h; rw [idxC_any p C (k + 1)]; simp [h]
theorem drop_cl {C : List Cl} {i : Nat} (h : i < C.length) : C.drop i = clAt C i :: C.drop (i + 1) := by
  rw [List.drop_eq_getElem_cons h]; simp [clAt, h]
theorem em_c (x : Cl) (w : World) {b : Bool} (hb : emB x.cl = b) : Calls Try.prog 27 #[.agg #[.int .i64 x.ag, .int .i64 x.id, .int .i64 x.ph, .int .i64 x.cl, .int .i64 x.si]] w fun e w' => e = .returned (.bool b) ∧ Below w.heap.size w w' := by
  rw [← hb]; exact em_any x.ag x.id x.ph x.cl x.si w
theorem served_c (x : Cl) (bs : Nat) (ph : Int) (w : World) (hs0 : w.cell? ⟨bs, 0, none⟩ = some (.int .i64 ph)) (hsb : bs < w.heap.size) {b : Bool} (hb : (x.ph == ph) = b) :
    Calls Try.prog 35 #[.agg #[.int .i64 x.ag, .int .i64 x.id, .int .i64 x.ph, .int .i64 x.cl, .int .i64 x.si], .pointer (some ⟨bs, 0, none⟩)] w fun e w' => e = .returned (.bool b) ∧ Below w.heap.size w w' := by
  have bX := lat_alloc (Below.refl w.heap.size w) (.cells #[.int .i64 x.ag, .int .i64 x.id, .int .i64 x.ph, .int .i64 x.cl, .int .i64 x.si] 47)
  have h1 := (bX.cell (p := ⟨bs, 0, none⟩) hsb).trans hs0
  have HB := Lib.hid hb
  clear hb
  go_enter Try.func35, Try.ntmps35
  go_wp2
  go_ret
  exact ⟨ret_b HB.out, bX⟩
theorem own_c (x : Cl) (bs bf : Nat) (ph : Int) (w : World) (hs0 : w.cell? ⟨bs, 0, none⟩ = some (.int .i64 ph)) (hsb : bs < w.heap.size) (hf0 : w.cell? ⟨bf, 0, none⟩ = some (.func (.func 35) #[] #[.pointer (some ⟨bs, 0, none⟩)])) (hfb : bf < w.heap.size) {b : Bool} (hb : (x.ph == ph && emB x.cl) = b) :
    Calls Try.prog 36 #[.agg #[.int .i64 x.ag, .int .i64 x.id, .int .i64 x.ph, .int .i64 x.cl, .int .i64 x.si], .pointer (some ⟨bf, 0, none⟩)] w fun e w' => e = .returned (.bool b) ∧ Below w.heap.size w w' := by
  have bX := lat_alloc (Below.refl w.heap.size w) (.cells #[.int .i64 x.ag, .int .i64 x.id, .int .i64 x.ph, .int .i64 x.cl, .int .i64 x.si] 47)
  have BX := Blk.new (w := w) (t := 47) (cs := #[.int .i64 x.ag, .int .i64 x.id, .int .i64 x.ph, .int .i64 x.cl, .int .i64 x.si])
  have h1 := (bX.cell (p := ⟨bs, 0, none⟩) hsb).trans hs0
  have h2 := (bX.cell (p := ⟨bf, 0, none⟩) hfb).trans hf0
  have hsb1 := Nat.lt_of_lt_of_le hsb bX.size
  go_enter Try.func36, Try.ntmps36
  go_wp2_with fail
  generalize w.alloc (.cells #[.int .i64 x.ag, .int .i64 x.id, .int .i64 x.ph, .int .i64 x.cl, .int .i64 x.si] 47) = W at *
  cases hp : (x.ph == ph) with
  | true =>
    have HB : Hid (emB x.cl = b) := Lib.hid (by rw [hp] at hb; simpa using hb)
    have HP := Lib.hid hp
    clear hb hp
    refine (served_c x bs ph W h1 hsb1 HP.out).mono ?_
    rintro e w2 ⟨rfl, hw2⟩
    have BY := BX.below hw2
    have o0 := BY.at 0 rfl
    have o1 := BY.at 1 rfl
    have o2 := BY.at 2 rfl
    have o3 := BY.at 3 rfl
    have o4 := BY.at 4 rfl
    go_wp2_with fail
    refine (em_c x w2 HB.out).mono ?_
    rintro e w3 ⟨rfl, hw3⟩
    clear o0 o1 o2 o3 o4
    go_wp2
    go_ret
    exact ⟨rfl, (bX.trans (hw2.mono bX.size)).trans (hw3.mono (bX.trans (hw2.mono bX.size)).size)⟩
  | false =>
    have HB : Hid (false = b) := Lib.hid (by rw [hp] at hb; simpa using hb)
    have HP := Lib.hid hp
    clear hb hp
    refine (served_c x bs ph W h1 hsb1 HP.out).mono ?_
    rintro e w2 ⟨rfl, hw2⟩
    go_wp2
    go_ret
    exact ⟨ret_b HB.out, bX.trans (hw2.mono bX.size)⟩

set_option maxHeartbeats 1000000 in
theorem index_served (A : Option Addr) (c : Nat) (C : List Cl) (bs : Nat) (ph : Int) (w : World) (hC : Cls w w.heap.size A C) (hl : C.length ≤ 1000000) (hs0 : w.cell? ⟨bs, 0, none⟩ = some (.int .i64 ph)) (hsb : bs < w.heap.size) :
    Calls Try.prog 42 #[.slice A C.length c, (.func (.func 35) #[] #[.pointer (some ⟨bs, 0, none⟩)])] w fun e w' => e = .returned (.int .i64 (idxC (fun z => z.ph == ph) C 0)) ∧ Below w.heap.size w w' := by
  go_enter Try.func42, Try.ntmps42
  go_wp2
  go_loopw [8] (fun i wr => ∃ (k : Nat), k ≤ C.length ∧ i = .int .i64 k ∧ Below w.heap.size w wr ∧ Go.RowKit.Hid (idxC (fun z => z.ph == ph) C 0 = idxC (fun z => z.ph == ph) (C.drop k) k)) (fun i _ => C.length - (intOf i).toNat)
  case atStart => exact ⟨0, by omega, rfl, Below.refl _ _, Lib.hid rfl⟩
  case round =>
    obtain ⟨k, hk, rfl, hbr, HV⟩ := hrel
    by_cases hlt : k < C.length
    · have hlt' : (k : Int) < C.length := by omega
      obtain ⟨bb, off, rfl, hB, h0, h1, h2, h3, h4⟩ := (hC.grow hbr).at hlt
      have HD := Lib.hid (drop_cl hlt)
      generalize clAt C k = x at *
      cases hr : (fun z => z.ph == ph) x with
      | true =>
        have HR := Lib.hid hr
        have HX : Hid (idxC (fun z => z.ph == ph) C 0 = k) := Lib.hid (by rw [HV.out, HD.out, idxC, if_pos hr])
        clear hr
        go_wp2_with fail
        refine (served_c x bs ph _ ((hbr.cell (p := ⟨bs, 0, none⟩) hsb).trans hs0) (Nat.lt_of_lt_of_le hsb hbr.size) HR.out).mono ?_
        rintro e w2 ⟨rfl, hw2⟩
        go_wp2
        go_ret
        exact ⟨ret_i HX.out.symm, hbr.trans (hw2.mono hbr.size)⟩
      | false =>
        have HR := Lib.hid hr
        have HX : Hid (idxC (fun z => z.ph == ph) C 0 = idxC (fun z => z.ph == ph) (C.drop (k + 1)) (k + 1)) := Lib.hid (by rw [HV.out, HD.out, idxC, if_neg (Bool.eq_false_iff.1 hr)])
        clear hr
        go_wp2_with fail
        refine (served_c x bs ph _ ((hbr.cell (p := ⟨bs, 0, none⟩) hsb).trans hs0) (Nat.lt_of_lt_of_le hsb hbr.size) HR.out).mono ?_
        rintro e w2 ⟨rfl, hw2⟩
        go_wp2
        go_roundw
        case rel => exact ⟨k + 1, by omega, by go_num, hbr.trans (hw2.mono hbr.size), HX⟩
        case measure => simp [intOf]; omega
    · have hk' : C.drop k = [] := List.drop_eq_nil_of_le (by omega)
      have HX : Hid (idxC (fun z => z.ph == ph) C 0 = -1) := Lib.hid (by rw [HV.out, hk', idxC])
      clear hk'
      go_wp2
      go_ret
      exact ⟨ret_i HX.out.symm, hbr⟩
theorem has_served (A : Option Addr) (c : Nat) (C : List Cl) (bs : Nat) (ph : Int) (w : World) (hC : Cls w w.heap.size A C) (hl : C.length ≤ 1000000) (hs0 : w.cell? ⟨bs, 0, none⟩ = some (.int .i64 ph)) (hsb : bs < w.heap.size) {b : Bool} (hb : C.any (fun z => z.ph == ph) = b) :
    Calls Try.prog 37 #[.slice A C.length c, (.func (.func 35) #[] #[.pointer (some ⟨bs, 0, none⟩)])] w fun e w' => e = .returned (.bool b) ∧ Below w.heap.size w w' := by
  have hx := idxC_any (fun z => z.ph == ph) C 0
  rw [hb] at hx
  go_enter Try.func37, Try.ntmps37
  go_wp2_with fail
  refine (index_served A c C bs ph w hC hl hs0 hsb).mono ?_
  rintro e w2 ⟨rfl, hw2⟩
  have HX : Hid (decide (idxC (fun z => z.ph == ph) C 0 ≥ 0) = b) := Lib.hid hx
  clear hx
  go_wp2
  go_ret
  exact ⟨ret_b HX.out, hw2⟩

set_option maxHeartbeats 1000000 in
theorem index_urgent (A : Option Addr) (c : Nat) (C : List Cl)  (w : World) (hC : Cls w w.heap.size A C) (hl : C.length ≤ 1000000)  :
    Calls Try.prog 42 #[.slice A C.length c, (.func (.func 27) #[] #[])] w fun e w' => e = .returned (.int .i64 (idxC (fun z => emB z.cl) C 0)) ∧ Below w.heap.size w w' := by
  go_enter Try.func42, Try.ntmps42
  go_wp2
  go_loopw [8] (fun i wr => ∃ (k : Nat), k ≤ C.length ∧ i = .int .i64 k ∧ Below w.heap.size w wr ∧ Go.RowKit.Hid (idxC (fun z => emB z.cl) C 0 = idxC (fun z => emB z.cl) (C.drop k) k)) (fun i _ => C.length - (intOf i).toNat)
  case atStart => exact ⟨0, by omega, rfl, Below.refl _ _, Lib.hid rfl⟩
  case round =>
    obtain ⟨k, hk, rfl, hbr, HV⟩ := hrel
    by_cases hlt : k < C.length
    · have hlt' : (k : Int) < C.length := by omega
      obtain ⟨bb, off, rfl, hB, h0, h1, h2, h3, h4⟩ := (hC.grow hbr).at hlt
      have HD := Lib.hid (drop_cl hlt)
      generalize clAt C k = x at *
      cases hr : (fun z => emB z.cl) x with
      | true =>
        have HR := Lib.hid hr
        have HX : Hid (idxC (fun z => emB z.cl) C 0 = k) := Lib.hid (by rw [HV.out, HD.out, idxC, if_pos hr])
        clear hr
        go_wp2_with fail
        refine (em_c x _ HR.out).mono ?_
        rintro e w2 ⟨rfl, hw2⟩
        go_wp2
        go_ret
        exact ⟨ret_i HX.out.symm, hbr.trans (hw2.mono hbr.size)⟩
      | false =>
        have HR := Lib.hid hr
        have HX : Hid (idxC (fun z => emB z.cl) C 0 = idxC (fun z => emB z.cl) (C.drop (k + 1)) (k + 1)) := Lib.hid (by rw [HV.out, HD.out, idxC, if_neg (Bool.eq_false_iff.1 hr)])
        clear hr
        go_wp2_with fail
        refine (em_c x _ HR.out).mono ?_
        rintro e w2 ⟨rfl, hw2⟩
        go_wp2
        go_roundw
        case rel => exact ⟨k + 1, by omega, by go_num, hbr.trans (hw2.mono hbr.size), HX⟩
        case measure => simp [intOf]; omega
    · have hk' : C.drop k = [] := List.drop_eq_nil_of_le (by omega)
      have HX : Hid (idxC (fun z => emB z.cl) C 0 = -1) := Lib.hid (by rw [HV.out, hk', idxC])
      clear hk'
      go_wp2
      go_ret
      exact ⟨ret_i HX.out.symm, hbr⟩
theorem has_urgent (A : Option Addr) (c : Nat) (C : List Cl)  (w : World) (hC : Cls w w.heap.size A C) (hl : C.length ≤ 1000000)  {b : Bool} (hb : C.any (fun z => emB z.cl) = b) :
    Calls Try.prog 37 #[.slice A C.length c, (.func (.func 27) #[] #[])] w fun e w' => e = .returned (.bool b) ∧ Below w.heap.size w w' := by
  have hx := idxC_any (fun z => emB z.cl) C 0
  rw [hb] at hx
  go_enter Try.func37, Try.ntmps37
  go_wp2_with fail
  refine (index_urgent A c C  w hC hl ).mono ?_
  rintro e w2 ⟨rfl, hw2⟩
  have HX : Hid (decide (idxC (fun z => emB z.cl) C 0 ≥ 0) = b) := Lib.hid hx
  clear hx
  go_wp2
  go_ret
  exact ⟨ret_b HX.out, hw2⟩

set_option maxHeartbeats 1000000 in
theorem index_own (A : Option Addr) (c : Nat) (C : List Cl) (bs bf : Nat) (ph : Int) (w : World) (hC : Cls w w.heap.size A C) (hl : C.length ≤ 1000000) (hs0 : w.cell? ⟨bs, 0, none⟩ = some (.int .i64 ph)) (hsb : bs < w.heap.size) (hf0 : w.cell? ⟨bf, 0, none⟩ = some (.func (.func 35) #[] #[.pointer (some ⟨bs, 0, none⟩)])) (hfb : bf < w.heap.size) :
    Calls Try.prog 42 #[.slice A C.length c, (.func (.func 36) #[] #[.pointer (some ⟨bf, 0, none⟩)])] w fun e w' => e = .returned (.int .i64 (idxC (fun z => z.ph == ph && emB z.cl) C 0)) ∧ Below w.heap.size w w' := by
  go_enter Try.func42, Try.ntmps42
  go_wp2
  go_loopw [8] (fun i wr => ∃ (k : Nat), k ≤ C.length ∧ i = .int .i64 k ∧ Below w.heap.size w wr ∧ Go.RowKit.Hid (idxC (fun z => z.ph == ph && emB z.cl) C 0 = idxC (fun z => z.ph == ph && emB z.cl) (C.drop k) k)) (fun i _ => C.length - (intOf i).toNat)
  case atStart => exact ⟨0, by omega, rfl, Below.refl _ _, Lib.hid rfl⟩
  case round =>
    obtain ⟨k, hk, rfl, hbr, HV⟩ := hrel
    by_cases hlt : k < C.length
    · have hlt' : (k : Int) < C.length := by omega
      obtain ⟨bb, off, rfl, hB, h0, h1, h2, h3, h4⟩ := (hC.grow hbr).at hlt
      have HD := Lib.hid (drop_cl hlt)
      generalize clAt C k = x at *
      cases hr : (fun z => z.ph == ph && emB z.cl) x with
      | true =>
        have HR := Lib.hid hr
        have HX : Hid (idxC (fun z => z.ph == ph && emB z.cl) C 0 = k) := Lib.hid (by rw [HV.out, HD.out, idxC, if_pos hr])
        clear hr
        go_wp2_with fail
        refine (own_c x bs bf ph _ ((hbr.cell (p := ⟨bs, 0, none⟩) hsb).trans hs0) (Nat.lt_of_lt_of_le hsb hbr.size) ((hbr.cell (p := ⟨bf, 0, none⟩) hfb).trans hf0) (Nat.lt_of_lt_of_le hfb hbr.size) HR.out).mono ?_
        rintro e w2 ⟨rfl, hw2⟩
        go_wp2
        go_ret
        exact ⟨ret_i HX.out.symm, hbr.trans (hw2.mono hbr.size)⟩
      | false =>
        have HR := Lib.hid hr
        have HX : Hid (idxC (fun z => z.ph == ph && emB z.cl) C 0 = idxC (fun z => z.ph == ph && emB z.cl) (C.drop (k + 1)) (k + 1)) := Lib.hid (by rw [HV.out, HD.out, idxC, if_neg (Bool.eq_false_iff.1 hr)])
        clear hr
        go_wp2_with fail
        refine (own_c x bs bf ph _ ((hbr.cell (p := ⟨bs, 0, none⟩) hsb).trans hs0) (Nat.lt_of_lt_of_le hsb hbr.size) ((hbr.cell (p := ⟨bf, 0, none⟩) hfb).trans hf0) (Nat.lt_of_lt_of_le hfb hbr.size) HR.out).mono ?_
        rintro e w2 ⟨rfl, hw2⟩
        go_wp2
        go_roundw
        case rel => exact ⟨k + 1, by omega, by go_num, hbr.trans (hw2.mono hbr.size), HX⟩
        case measure => simp [intOf]; omega
    · have hk' : C.drop k = [] := List.drop_eq_nil_of_le (by omega)
      have HX : Hid (idxC (fun z => z.ph == ph && emB z.cl) C 0 = -1) := Lib.hid (by rw [HV.out, hk', idxC])
      clear hk'
      go_wp2
      go_ret
      exact ⟨ret_i HX.out.symm, hbr⟩
theorem has_own (A : Option Addr) (c : Nat) (C : List Cl) (bs bf : Nat) (ph : Int) (w : World) (hC : Cls w w.heap.size A C) (hl : C.length ≤ 1000000) (hs0 : w.cell? ⟨bs, 0, none⟩ = some (.int .i64 ph)) (hsb : bs < w.heap.size) (hf0 : w.cell? ⟨bf, 0, none⟩ = some (.func (.func 35) #[] #[.pointer (some ⟨bs, 0, none⟩)])) (hfb : bf < w.heap.size) {b : Bool} (hb : C.any (fun z => z.ph == ph && emB z.cl) = b) :
    Calls Try.prog 37 #[.slice A C.length c, (.func (.func 36) #[] #[.pointer (some ⟨bf, 0, none⟩)])] w fun e w' => e = .returned (.bool b) ∧ Below w.heap.size w w' := by
  have hx := idxC_any (fun z => z.ph == ph && emB z.cl) C 0
  rw [hb] at hx
  go_enter Try.func37, Try.ntmps37
  go_wp2_with fail
  refine (index_own A c C bs bf ph w hC hl hs0 hsb hf0 hfb).mono ?_
  rintro e w2 ⟨rfl, hw2⟩
  have HX : Hid (decide (idxC (fun z => z.ph == ph && emB z.cl) C 0 ≥ 0) = b) := Lib.hid hx
  clear hx
  go_wp2
  go_ret
  exact ⟨ret_b HX.out, hw2⟩

end Go.Proofs.Ytikffoepndpfjaa
