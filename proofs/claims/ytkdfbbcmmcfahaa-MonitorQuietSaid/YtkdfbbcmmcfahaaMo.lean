/-
  Forbidden outputs; the law MonitorOrder answers true: its walk. Conditions: none.
-/
import Derived.Test.YtkdfbbcmmcfahaaCo
import Derived.Test.YtkdfbbcmmcfahaaJn
import Derived.Deep.OwnRows
import Derived.WalkMore
import Derived.Deep.LoopGhost
namespace Go.Proofs.Ytkdfbbcmmcfahaa
open Go.ChangeShapes Go.WideShapes Go.RowKit
set_option linter.unusedVariables false

def passB (x : Int) : Bool := decide (x = 1 ∨ x = 2)
theorem passes_any (x : Int) (w : World) : Calls Try.prog 23 #[.int .i64 x] w fun e w' => e = .returned (.bool (passB x)) ∧ w = w' := by
  by_cases h1 : x = 1
  · subst h1
    have H := Lib.hid (show passB 1 = true by decide)
    go_enter Try.func23, Try.ntmps23
    go_wp2
    go_ret
    exact ⟨ret_b H.out.symm, rfl⟩
  have z1 : (x == 1) = false := by simpa using h1
  by_cases h2 : x = 2
  · subst h2
    have H := Lib.hid (show passB 2 = true by decide)
    clear h1
    go_enter Try.func23, Try.ntmps23
    go_wp2
    go_ret
    exact ⟨ret_b H.out.symm, rfl⟩
  have z2 : (x == 2) = false := by simpa using h2
  have H := Lib.hid (show passB x = false by simp [passB, h1, h2])
  clear h1 h2
  go_enter Try.func23, Try.ntmps23
  go_wp2
  go_ret
  exact ⟨ret_b H.out.symm, rfl⟩
theorem passes_c {x : Int} {b : Bool} (h : passB x = b) (w : World) : Calls Try.prog 23 #[.int .i64 x] w fun e w' => e = .returned (.bool b) ∧ w = w' := by
  have := passes_any x w
  rw [h] at this
  exact this
/-- The phases i and k let traffic pass, and conflict. -/
def Pair (C L : List Int) (i k : Nat) : Prop := i ≠ k ∧ passB (at_ L i) = true ∧ passB (at_ L k) = true ∧ conB C i k = true
def Fb (C L : List Int) : Prop := ∃ i, i < L.length ∧ ∃ k, k < L.length ∧ Pair C L i k
theorem con_c {A : Option Addr} (C : List Int) (cA m i k : Nat) (w : World) (hm : C.length = m) (hs : Ints .i64 w w.heap.size A C) (hC : m ≤ 60) : Calls Try.prog 24 #[.slice A m cA, .int .i64 i, .int .i64 k] w fun e w' => e = .returned (.bool (conB C i k)) ∧ w = w' := by
  subst hm
  exact conflict_any A C cA w.heap.size i k w hs hC
theorem forb_any (A B : Option Addr) (cA cB m n : Nat) (C L : List Int) (w : World) (hm : C.length = m) (hn : L.length = n) (hsC : Ints .i64 w w.heap.size A C) (hsL : Ints .i64 w w.heap.size B L) (hC : m ≤ 60) (hL : n ≤ 60) :
    Calls Try.prog 10 #[.slice A m cA, .slice B n cB] w fun e w' => w = w' ∧ ∃ r : Bool, e = .returned (.bool r) ∧ (r = true ↔ Fb C L) := by
  have HN := Lib.hid hn
  have HM := Lib.hid hm
  clear hn hm
  go_enter Try.func10, Try.ntmps10
  go_wp2
  go_step3
  go_wp2
  go_step3
  go_wp2
  go_loopw [5, 12] (fun s5 v wr => ∃ i : Nat, s5 = .bool false ∧ v = .int .i64 i ∧ w = wr ∧ i ≤ n ∧ ∀ p, p < i → ∀ q, q < n → ¬ Pair C L p q) (fun _ v _ => n - (intOf v).toNat)
  case atStart => exact ⟨0, rfl, rfl, rfl, by omega, fun p hp => absurd hp (by omega)⟩
  case round =>
    obtain ⟨i, rfl, rfl, rfl, hi, hno⟩ := hrel
    by_cases hlt : i < n
    · have hltZ : (i : Int) < n := by omega
      obtain ⟨b, off, rfl, hbB, hc⟩ := hsL (by have := HN.out; omega)
      have hci := hc i (by have := HN.out; omega)
      go_wp2
      clear hci
      go_loopw [5, 19] (fun s5 v wr => ∃ k : Nat, s5 = .bool false ∧ v = .int .i64 k ∧ w = wr ∧ k ≤ n ∧ ∀ q, q < k → ¬ Pair C L i q) (fun _ v _ => n - (intOf v).toNat)
      case atStart => exact ⟨0, rfl, rfl, rfl, by omega, fun p hp => absurd hp (by omega)⟩
      case round =>
        obtain ⟨k, rfl, rfl, rfl, hk, hno2⟩ := hrel
        by_cases hlt2 : k < n
        · have hlt2Z : (k : Int) < n := by omega
          have hck := hc k (by have := HN.out; omega)
          have hcl : L.length = n := HN.out
          by_cases hik : i = k
          · subst hik
            have zz : ((i : Int) != (i : Int)) = false := by simp
            clear hcl
            go_wp2
            go_roundw
            case rel => exact ⟨i + 1, by trivial, by go_num, trivial, by omega, fun q hq => by
              by_cases e : q = i
              · subst e; exact fun h => h.1 rfl
              · exact hno2 q (by omega)⟩
            case measure => simp [intOf]; omega
          · have zz : ((i : Int) != (k : Int)) = true := by simp; omega
            clear hcl
            cases hp1 : passB (at_ L i) with
            | false =>
              have HP1 := Lib.hid hp1
              clear hp1
              go_wp2_with fail
              refine (passes_c HP1.out _).mono ?_
              rintro e w' ⟨rfl, rfl⟩
              go_wp2
              go_roundw
              case rel => exact ⟨k + 1, by trivial, by go_num, trivial, by omega, fun q hq => by
                by_cases e : q = k
                · subst e; exact fun h => by have := h.2.1; rw [HP1.out] at this; cases this
                · exact hno2 q (by omega)⟩
              case measure => simp [intOf]; omega
            | true =>
              have HP1 := Lib.hid hp1
              clear hp1
              cases hp2 : passB (at_ L k) with
              | false =>
                have HP2 := Lib.hid hp2
                clear hp2
                go_wp2_with fail
                refine (passes_c HP1.out _).mono ?_
                rintro e w' ⟨rfl, rfl⟩
                go_wp2_with fail
                refine (passes_c HP2.out _).mono ?_
                rintro e w' ⟨rfl, rfl⟩
                go_wp2
                go_roundw
                case rel => exact ⟨k + 1, by trivial, by go_num, trivial, by omega, fun q hq => by
                  by_cases e : q = k
                  · subst e; exact fun h => by have := h.2.2.1; rw [HP2.out] at this; cases this
                  · exact hno2 q (by omega)⟩
                case measure => simp [intOf]; omega
              | true =>
                have HP2 := Lib.hid hp2
                clear hp2
                have HCF := con_c (A := A) C cA m i k w HM.out hsC hC
                go_wp2_with fail
                refine (passes_c HP1.out _).mono ?_
                rintro e w' ⟨rfl, rfl⟩
                go_wp2_with fail
                refine (passes_c HP2.out _).mono ?_
                rintro e w' ⟨rfl, rfl⟩
                go_wp2_with fail
                refine HCF.mono ?_
                rintro e w' ⟨rfl, rfl⟩
                cases hcf : conB C i k with
                | false =>
                  have HC3 := Lib.hid hcf
                  clear hcf
                  go_wp2
                  go_roundw
                  case rel => exact ⟨k + 1, by trivial, by go_num, trivial, by omega, fun q hq => by
                    by_cases e : q = k
                    · subst e; exact fun h => by have := h.2.2.2; rw [HC3.out] at this; cases this
                    · exact hno2 q (by omega)⟩
                  case measure => simp [intOf]; omega
                | true =>
                  have HC3 := Lib.hid hcf
                  clear hcf
                  go_wp2
                  (try rw [Exit.noGoto_ret])
                  go_ret
                  exact ⟨rfl, true, rfl, by simp; exact ⟨i, by have := HN.out; omega, k, by have := HN.out; omega, hik, HP1.out, HP2.out, HC3.out⟩⟩
        · go_wp2
          go_roundw
          case rel => exact ⟨i + 1, by trivial, by go_num, trivial, by omega, fun p hp q hq => by
            by_cases e : p = i
            · subst e; exact hno2 q (by omega)
            · exact hno p (by omega) q hq⟩
          case measure => simp [intOf]; omega
    · go_wp2
      (try rw [Exit.noGoto_ret])
      go_ret
      exact ⟨rfl, false, rfl, by simp; rintro ⟨p, hp, q, hq, h⟩; have := HN.out; exact hno p (by omega) q (by omega) h⟩
theorem forb_lit (C L : List Int) (A B : Option Addr) (cA cB : Nat) (w : World) (b : Bool) (hsC : Ints .i64 w w.heap.size A C) (hsL : Ints .i64 w w.heap.size B L) (hC : C.length = 2) (hL : L.length = 2) (h : Fb C L ↔ b = true) :
    Calls Try.prog 10 #[.slice A 2 cA, .slice B 2 cB] w fun e w' => w = w' ∧ e = .returned (.bool b) :=
  (forb_any A B cA cB 2 2 C L w hC hL hsC hsL (by omega) (by omega)).mono fun e w' ⟨h1, r, h2, h3⟩ => ⟨h1, by
    have : r = b := by
      rw [Bool.eq_iff_iff, h3, h]
    rw [h2, this]⟩
theorem fb_yes : Fb [2, 1] [1, 2] ↔ true = true := by
  simp only [iff_true]
  exact ⟨0, by decide, 1, by decide, by decide, by decide, by decide, by decide⟩
theorem fb_no : Fb [2, 1] [1, 3] ↔ false = true := by
  simp only [Bool.false_eq_true, iff_false]
  rintro ⟨i, hi, k, hk, h0, h1, h2, h3⟩
  have hi' : i < 2 := hi
  have hk' : k < 2 := hk
  have c1 : i = 0 ∨ i = 1 := by omega
  have c2 : k = 0 ∨ k = 1 := by omega
  rcases c1 with rfl | rfl <;> rcases c2 with rfl | rfl <;> first | exact absurd rfl h0 | exact absurd h2 (by decide) | exact absurd h1 (by decide)
def two (a b : Int) : Obj := .cells #[.int .i64 a, .int .i64 b] 3
theorem ints_two (w : World) (a b : Int) : Ints .i64 (w.alloc (.cells #[.int .i64 a, .int .i64 b] 3)) (w.alloc (.cells #[.int .i64 a, .int .i64 b] 3)).heap.size (some ⟨w.heap.size, 0, none⟩) [a, b] :=
  ints_new fun i hi => by
    have hi' : i < 2 := hi
    have c1 : i = 0 ∨ i = 1 := by omega
    rcases c1 with rfl | rfl <;> rfl
set_option maxRecDepth 100000 in
theorem awake_any (w : World) : Calls Try.prog 12 #[] w fun e w' => e = .returned (.bool true) ∧ Below w.heap.size w w' := by
  have I1 := ints_two w 2 1
  have bA := lat_alloc (Below.refl w.heap.size w) (.cells #[.int .i64 2, .int .i64 1] 3)
  have I2 := ints_two (w.alloc (.cells #[.int .i64 2, .int .i64 1] 3)) 1 2
  have bA2 := lat_alloc (Below.refl (w.alloc (.cells #[.int .i64 2, .int .i64 1] 3)).heap.size (w.alloc (.cells #[.int .i64 2, .int .i64 1] 3))) (.cells #[.int .i64 1, .int .i64 2] 3)
  have I1' := I1.grow bA2
  have bW := bA.trans (bA2.mono bA.size)
  rw [heap_size w] at I2
  go_enter Try.func12, Try.ntmps12
  go_wp2_with fail
  generalize ((w.alloc (.cells #[.int .i64 2, .int .i64 1] 3)).alloc (.cells #[.int .i64 1, .int .i64 2] 3)) = w1 at *
  refine (forb_lit [2, 1] [1, 2] _ _ _ _ _ true I1' I2 rfl rfl fb_yes).mono ?_
  rintro e w' ⟨rfl, rfl⟩
  have J1 := ints_two w1 2 1
  have bB := lat_alloc (Below.refl w1.heap.size w1) (.cells #[.int .i64 2, .int .i64 1] 3)
  have J2 := ints_two (w1.alloc (.cells #[.int .i64 2, .int .i64 1] 3)) 1 3
  have bB2 := lat_alloc (Below.refl (w1.alloc (.cells #[.int .i64 2, .int .i64 1] 3)).heap.size (w1.alloc (.cells #[.int .i64 2, .int .i64 1] 3))) (.cells #[.int .i64 1, .int .i64 3] 3)
  have J1' := J1.grow bB2
  have bV := bB.trans (bB2.mono bB.size)
  rw [heap_size w1] at J2
  have bW := bW.trans (bV.mono bW.size)
  go_wp2_with fail
  generalize ((w1.alloc (.cells #[.int .i64 2, .int .i64 1] 3)).alloc (.cells #[.int .i64 1, .int .i64 3] 3)) = w2 at *
  refine (forb_lit [2, 1] [1, 3] _ _ _ _ _ false J1' J2 rfl rfl fb_no).mono ?_
  rintro e w' ⟨rfl, rfl⟩
  go_wp2
  go_ret
  exact ⟨rfl, bW⟩
end Go.Proofs.Ytkdfbbcmmcfahaa
