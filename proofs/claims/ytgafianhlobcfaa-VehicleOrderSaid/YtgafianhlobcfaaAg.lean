/-
  The example of chapter 15, and an agency with limits. Conditions: none.
-/
import Derived.Test.YtgafianhlobcfaaVm
import Derived.Test.YtgafianhlobcfaaD
namespace Go.Proofs.Ytgafianhlobcfaa
open Go.ChangeShapes Go.WideShapes Go.RowKit
set_option linter.unusedVariables false

theorem ints4 {w : World} {a b c d : Int} : Ints .i64 (w.alloc (.cells #[.int .i64 a, .int .i64 b, .int .i64 c, .int .i64 d] 3)) (w.alloc (.cells #[.int .i64 a, .int .i64 b, .int .i64 c, .int .i64 d] 3)).heap.size (some ⟨w.heap.size, 0, none⟩) [a, b, c, d] :=
  ints_new (fun i hi => by simp at hi; rcases i with _ | _ | _ | _ | i <;> first | rfl | omega)
theorem results_cell {P : Program} {w : World} {fn : Func} {t : TypeId} {a : Tmp} {A : Addr} {V : Value} {tmps : Array Value} (h : fn.results = #[.cell a t]) (ha : tmps.getD a undef = .pointer (some A)) (hl : (loadVar t A).run P w = .ok V w) :
    (results fn tmps).run P w = .ok V w := by
  rw [Array.getD_eq_getD_getElem?] at ha
  simp [results, h, ha, asAddr, hl]
theorem load_agency {w : World} {g : Nat} {a b c d e f h i : Value} (H : Blk w g 29 #[a, b, c, d, e, f, h, i]) : (loadVar 29 ⟨g, 0, none⟩).run Try.prog w = .ok (.agg #[a, b, c, d, e, f, h, i]) w := by
  have c0 := Blk.cell H 0
  have c1 := Blk.cell H 1
  have c2 := Blk.cell H 2
  have c3 := Blk.cell H 3
  have c4 := Blk.cell H 4
  have c5 := Blk.cell H 5
  have c6 := Blk.cell H 6
  have c7 := Blk.cell H 7
  go_simp
theorem agency_any (n : Int) (w : World) (h0 : -9223372036854775808 ≤ n) (h1 : n ≤ 9223372036854775807) :
    Calls Try.prog 7 #[.int .i64 n] w fun e w' => Below w.heap.size w w' ∧ ∃ (cls : Int) (g : Nat) (L : List Int), e = .returned (.agg #[.slice none 0 0, .int .i64 0, .int .i64 cls, .slice (some ⟨g, 0, none⟩) 4 4, .int .i64 0, .int .i64 0, .int .i64 0, .int .i64 0]) ∧
      0 ≤ cls ∧ cls ≤ 3 ∧ L.length = 4 ∧ (∀ x ∈ L, 0 ≤ x ∧ x ≤ 8) ∧ w.heap.size ≤ g ∧ Ints .i64 w' w'.heap.size (some ⟨g, 0, none⟩) L := by
  have td : ∀ k : Int, 0 < k → -9223372036854775808 ≤ n.tdiv k ∧ n.tdiv k ≤ 9223372036854775807 := fun k hk => by
    rcases Int.le_total 0 n with h | h
    · rw [Int.tdiv_eq_ediv_of_nonneg h]
      have := Int.ediv_le_self k h
      have := Int.ediv_nonneg h (Int.le_of_lt hk)
      omega
    · have e : n = -(-n) := by omega
      rw [e, Int.neg_tdiv, Int.tdiv_eq_ediv_of_nonneg (by omega)]
      have := Int.ediv_le_self k (show 0 ≤ -n by omega)
      have := Int.ediv_nonneg (show 0 ≤ -n by omega) (Int.le_of_lt hk)
      omega
  have d4 := td 4 (by omega)
  have d16 := td 16 (by omega)
  have hw4 : IntKind.i64.wrap (n.tdiv 4) = n.tdiv 4 := IntWalk.i64_in _ (by omega)
  have hw16 : IntKind.i64.wrap (n.tdiv 16) = n.tdiv 16 := IntWalk.i64_in _ (by omega)
  have m1 := modI_bd n 4 (by omega)
  have m2 := modI_bd (n.tdiv 4) 4 (by omega)
  have m3 := modI_bd (n.tdiv 16) 9 (by omega)
  have M1 := Lib.hid (fun w => mod_any n 4 (by omega) (by omega) h0 h1 w)
  have M2 := Lib.hid (fun w => mod_any (n.tdiv 4) 4 (by omega) (by omega) d4.1 d4.2 w)
  have M3 := Lib.hid (fun w => mod_any (n.tdiv 16) 9 (by omega) (by omega) d16.1 d16.2 w)
  clear td
  have b0 := lat_alloc (Below.refl w.heap.size w) (.cells #[.slice none 0 0, .int .i64 0, .int .i64 0, .slice none 0 0, .int .i64 0, .int .i64 0, .int .i64 0, .int .i64 0] 29)
  go_enter Try.func7, Try.ntmps7
  go_wp2_with fail
  refine (M1.out _).mono ?_; rintro e w' ⟨rfl, hw'⟩; subst hw'
  go_wp2_with fail
  refine (M2.out _).mono ?_; rintro e w' ⟨rfl, hw'⟩; subst hw'
  go_wp2_with fail
  refine (M3.out _).mono ?_; rintro e w' ⟨rfl, hw'⟩; subst hw'
  clear M1 M2 M3 hw4 hw16 d4 d16
  generalize modI n 4 = x1 at *
  generalize modI (n.tdiv 4) 4 = x2 at *
  generalize modI (n.tdiv 16) 9 = x3 at *
  go_wp2_with fail
  have B := Blk.alloc (Blk.new (w := w) (t := 29) (cs := #[.slice none 0 0, .int .i64 0, .int .i64 x1, .slice (some ⟨w.heap.size + 1, 0, none⟩) 4 4, .int .i64 0, .int .i64 0, .int .i64 0, .int .i64 0])) (.cells #[.int .i64 x2, .int .i64 x3, .int .i64 8, .int .i64 3] 3)
  have bX := lat_alloc (lat_alloc (Below.refl w.heap.size w) (.cells #[.slice none 0 0, .int .i64 0, .int .i64 x1, .slice (some ⟨w.heap.size + 1, 0, none⟩) 4 4, .int .i64 0, .int .i64 0, .int .i64 0, .int .i64 0] 29)) (.cells #[.int .i64 x2, .int .i64 x3, .int .i64 8, .int .i64 3] 3)
  have I := ints4 (w := w.alloc (.cells #[.slice none 0 0, .int .i64 0, .int .i64 x1, .slice (some ⟨w.heap.size + 1, 0, none⟩) 4 4, .int .i64 0, .int .i64 0, .int .i64 0, .int .i64 0] 29)) (a := x2) (b := x3) (c := 8) (d := 3)
  rw [heap_size w] at I
  refine bodyPost_ret (results_cell rfl rfl (load_agency B)) rfl ?_
  exact ⟨bX, x1, w.heap.size + 1, [x2, x3, 8, 3], rfl, m1.1, by omega, rfl, fun x hx => by simp at hx; omega, by omega, I⟩
theorem awake_any (w : World) : Calls Try.prog 6 #[] w fun e w' => e = .returned (.bool true) ∧ Below w.heap.size w w' := by
  have I0 := ints4 (w := w) (a := 1) (b := 0) (c := 0) (d := 0)
  have bX := lat_alloc (lat_alloc (Below.refl w.heap.size w) (.cells #[.int .i64 1, .int .i64 0, .int .i64 0, .int .i64 0] 3)) (.cells #[.slice none 0 0, .int .i64 0, .int .i64 0, .slice (some ⟨w.heap.size, 0, none⟩) 4 4, .int .i64 0, .int .i64 0, .int .i64 0, .int .i64 0] 29)
  have I0 := I0.grow (lat_alloc (Below.refl _ _) (.cells #[.slice none 0 0, .int .i64 0, .int .i64 0, .slice (some ⟨w.heap.size, 0, none⟩) 4 4, .int .i64 0, .int .i64 0, .int .i64 0, .int .i64 0] 29))
  have B := Blk.new (w := w.alloc (.cells #[.int .i64 1, .int .i64 0, .int .i64 0, .int .i64 0] 3)) (t := 29) (cs := #[.slice none 0 0, .int .i64 0, .int .i64 0, .slice (some ⟨w.heap.size, 0, none⟩) 4 4, .int .i64 0, .int .i64 0, .int .i64 0, .int .i64 0])
  rw [heap_size] at B
  go_enter Try.func6, Try.ntmps6
  go_wp2_with fail
  generalize (w.alloc (.cells #[.int .i64 1, .int .i64 0, .int .i64 0, .int .i64 0] 3)).alloc (.cells #[.slice none 0 0, .int .i64 0, .int .i64 0, .slice (some ⟨w.heap.size, 0, none⟩) 4 4, .int .i64 0, .int .i64 0, .int .i64 0, .int .i64 0] 29) = W at *
  have E1 : regE [] 0 [1, 0, 0, 0] ⟨5, 0⟩ = 0 := by decide
  have E2 : regE [⟨5, 0⟩] 0 [1, 0, 0, 0] ⟨6, 0⟩ = 14 := by decide
  have E3 : regE [⟨5, 0⟩] 0 [1, 0, 0, 0] ⟨6, 1⟩ = 17 := by decide
  have hV : VeW [⟨5, 0⟩] := fun x hx => by simp at hx; subst hx; simp
  refine (register_any none 0 [] ⟨5, 0⟩ _ _ _ _ _ _ 0 _ _ [1, 0, 0, 0] W Vs.nil (fun x hx => by cases hx) (by simp) (by simp) (by omega) I0 (by simp) (by simp) (by simp) (by simp)).mono ?_
  rintro e w1 ⟨s, rfl, hb1, ho, _⟩
  rw [E1] at *
  obtain ⟨g, rfl, hg, hB1⟩ := ho rfl
  have S1 : Vs w1 w1.heap.size (some ⟨g, 0, none⟩) [⟨5, 0⟩] := blk_vs hB1
  have B := B.below hb1
  have I1 := I0.grow hb1
  have o0 := B.at 0 rfl
  have o1 := B.at 1 rfl
  have o2 := B.at 2 rfl
  have o3 := B.at 3 rfl
  have o4 := B.at 4 rfl
  have o5 := B.at 5 rfl
  have o6 := B.at 6 rfl
  have o7 := B.at 7 rfl
  go_wp2_with fail
  refine (register_any (some ⟨g, 0, none⟩) 1 [⟨5, 0⟩] ⟨6, 0⟩ _ _ _ _ _ _ 0 _ _ [1, 0, 0, 0] w1 S1 hV (by simp) (by simp) (by omega) I1 (by simp) (by simp) (by simp) (by simp)).mono ?_
  rintro e w2 ⟨s2, rfl, hb2, _, hn2⟩
  rw [E2] at *
  have hn2 := hn2 (by omega)
  subst hn2
  clear o0 o1 o2 o3 o4 o5 o6 o7
  have S2 := S1.grow hb2
  have B := B.below hb2
  have I2 := I1.grow hb2
  have o0 := B.at 0 rfl
  have o1 := B.at 1 rfl
  have o2 := B.at 2 rfl
  have o3 := B.at 3 rfl
  have o4 := B.at 4 rfl
  have o5 := B.at 5 rfl
  have o6 := B.at 6 rfl
  have o7 := B.at 7 rfl
  go_wp2_with fail
  refine (register_any (some ⟨g, 0, none⟩) 1 [⟨5, 0⟩] ⟨6, 1⟩ _ _ _ _ _ _ 0 _ _ [1, 0, 0, 0] w2 S2 hV (by simp) (by simp) (by omega) I2 (by simp) (by simp) (by simp) (by simp)).mono ?_
  rintro e w3 ⟨s3, rfl, hb3, _, hn3⟩
  rw [E3] at *
  have hn3 := hn3 (by omega)
  subst hn3
  clear o0 o1 o2 o3 o4 o5 o6 o7
  go_wp2
  go_ret
  exact ⟨rfl, ((bX.trans (hb1.mono bX.size)).trans (hb2.mono (bX.trans (hb1.mono bX.size)).size)).trans (hb3.mono ((bX.trans (hb1.mono bX.size)).trans (hb2.mono (bX.trans (hb1.mono bX.size)).size)).size)⟩
end Go.Proofs.Ytgafianhlobcfaa
