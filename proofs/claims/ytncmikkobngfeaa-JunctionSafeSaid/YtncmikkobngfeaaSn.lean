/-
  Forbidden outputs; the law MonitorOrder answers true: its walk. Conditions: none.
-/
import Derived.Test.YtncmikkobngfeaaCo
import Derived.Test.YtncmikkobngfeaaJn
import Derived.Deep.OwnRows
import Derived.WalkMore
import Derived.Deep.LoopGhost
import Derived.Test.YtncmikkobngfeaaVl
namespace Go.Proofs.Ytncmikkobngfeaa
open Go.ChangeShapes Go.WideShapes Go.RowKit
set_option linter.unusedVariables false

def passB (x : Int) : Bool := decide (x = 1 ∨ x = 2)
theorem passes_any (x : Int) (w : World) : Calls Try.prog 69 #[.int .i64 x] w fun e w' => e = .returned (.bool (passB x)) ∧ w = w' := by
  by_cases h1 : x = 1
  · subst h1
    have H := Lib.hid (show passB 1 = true by decide)
    go_enter Try.func69, Try.ntmps69
    go_wp2
    go_ret
    exact ⟨ret_b H.out.symm, rfl⟩
  have z1 : (x == 1) = false := by simpa using h1
  by_cases h2 : x = 2
  · subst h2
    have H := Lib.hid (show passB 2 = true by decide)
    clear h1
    go_enter Try.func69, Try.ntmps69
    go_wp2
    go_ret
    exact ⟨ret_b H.out.symm, rfl⟩
  have z2 : (x == 2) = false := by simpa using h2
  have H := Lib.hid (show passB x = false by simp [passB, h1, h2])
  clear h1 h2
  go_enter Try.func69, Try.ntmps69
  go_wp2
  go_ret
  exact ⟨ret_b H.out.symm, rfl⟩
theorem passes_c {x : Int} {b : Bool} (h : passB x = b) (w : World) : Calls Try.prog 69 #[.int .i64 x] w fun e w' => e = .returned (.bool b) ∧ w = w' := by
  have := passes_any x w
  rw [h] at this
  exact this
/-- The phases i and k let traffic pass, and conflict. -/
def Pair (C L : List Int) (i k : Nat) : Prop := i ≠ k ∧ passB (at_ L i) = true ∧ passB (at_ L k) = true ∧ conB C i k = true
def Fb (C L : List Int) : Prop := ∃ i, i < L.length ∧ ∃ k, k < L.length ∧ Pair C L i k
theorem mcon_c {A : Option Addr} (C : List Int) (cA m i k : Nat) (w : World) (hm : C.length = m) (hs : Ints .i64 w w.heap.size A C) (hC : m ≤ 60) : Calls Try.prog 70 #[.slice A m cA, .int .i64 i, .int .i64 k] w fun e w' => e = .returned (.bool (conB C i k)) ∧ w = w' := by
  subst hm
  exact conflict_any A C cA w.heap.size i k w hs hC
theorem forb_any (A B : Option Addr) (cA cB m n : Nat) (C L : List Int) (w : World) (hm : C.length = m) (hn : L.length = n) (hsC : Ints .i64 w w.heap.size A C) (hsL : Ints .i64 w w.heap.size B L) (hC : m ≤ 60) (hL : n ≤ 60) :
    Calls Try.prog 37 #[.slice A m cA, .slice B n cB] w fun e w' => w = w' ∧ ∃ r : Bool, e = .returned (.bool r) ∧ (r = true ↔ Fb C L) := by
  have HN := Lib.hid hn
  have HM := Lib.hid hm
  clear hn hm
  go_enter Try.func37, Try.ntmps37
  go_wp2
  go_step3
  go_wp2
  go_step3
  go_wp2
  go_loopw [5, 12] (fun s5 v wr => ∃ i : Nat, s5 = .bool false ∧ v = .int .i64 i ∧ w = wr ∧ i ≤ n ∧ ∀ p, p < i → ∀ q, q < n → ¬ Pair C L p q) (fun _ v _ => n - (intOf v).toNat)
  case atStart => exact ⟨0, rfl, rfl, rfl, by omega, fun p hp => absurd hp (by omega)⟩
  case round =>
    obtain ⟨i, rfl, rfl, rfl, hi, hno⟩ := hrel
    by_cases hlt : i < n
    · have hltZ : (i : Int) < n := by omega
      obtain ⟨b, off, rfl, hbB, hc⟩ := hsL (by have := HN.out; omega)
      have hci := hc i (by have := HN.out; omega)
      go_wp2
      clear hci
      go_loopw [5, 19] (fun s5 v wr => ∃ k : Nat, s5 = .bool false ∧ v = .int .i64 k ∧ w = wr ∧ k ≤ n ∧ ∀ q, q < k → ¬ Pair C L i q) (fun _ v _ => n - (intOf v).toNat)
      case atStart => exact ⟨0, rfl, rfl, rfl, by omega, fun p hp => absurd hp (by omega)⟩
      case round =>
        obtain ⟨k, rfl, rfl, rfl, hk, hno2⟩ := hrel
        by_cases hlt2 : k < n
        · have hlt2Z : (k : Int) < n := by omega
          have hck := hc k (by have := HN.out; omega)
          have hcl : L.length = n := HN.out
          by_cases hik : i = k
          · subst hik
            have zz : ((i : Int) != (i : Int)) = false := by simp
            clear hcl
            go_wp2
            go_roundw
            case rel => exact ⟨i + 1, by trivial, by go_num, trivial, by omega, fun q hq => by
              by_cases e : q = i
              · subst e; exact fun h => h.1 rfl
              · exact hno2 q (by omega)⟩
            case measure => simp [intOf]; omega
          · have zz : ((i : Int) != (k : Int)) = true := by simp; omega
            clear hcl
            cases hp1 : passB (at_ L i) with
            | false =>
              have HP1 := Lib.hid hp1
              clear hp1
              go_wp2_with fail
              refine (passes_c HP1.out _).mono ?_
              rintro e w' ⟨rfl, rfl⟩
              go_wp2
              go_roundw
              case rel => exact ⟨k + 1, by trivial, by go_num, trivial, by omega, fun q hq => by
                by_cases e : q = k
                · subst e; exact fun h => by have := h.2.1; rw [HP1.out] at this; cases this
                · exact hno2 q (by omega)⟩
              case measure => simp [intOf]; omega
            | true =>
              have HP1 := Lib.hid hp1
              clear hp1
              cases hp2 : passB (at_ L k) with
              | false =>
                have HP2 := Lib.hid hp2
                clear hp2
                go_wp2_with fail
                refine (passes_c HP1.out _).mono ?_
                rintro e w' ⟨rfl, rfl⟩
                go_wp2_with fail
                refine (passes_c HP2.out _).mono ?_
                rintro e w' ⟨rfl, rfl⟩
                go_wp2
                go_roundw
                case rel => exact ⟨k + 1, by trivial, by go_num, trivial, by omega, fun q hq => by
                  by_cases e : q = k
                  · subst e; exact fun h => by have := h.2.2.1; rw [HP2.out] at this; cases this
                  · exact hno2 q (by omega)⟩
                case measure => simp [intOf]; omega
              | true =>
                have HP2 := Lib.hid hp2
                clear hp2
                have HCF := mcon_c (A := A) C cA m i k w HM.out hsC hC
                go_wp2_with fail
                refine (passes_c HP1.out _).mono ?_
                rintro e w' ⟨rfl, rfl⟩
                go_wp2_with fail
                refine (passes_c HP2.out _).mono ?_
                rintro e w' ⟨rfl, rfl⟩
                go_wp2_with fail
                refine HCF.mono ?_
                rintro e w' ⟨rfl, rfl⟩
                cases hcf : conB C i k with
                | false =>
                  have HC3 := Lib.hid hcf
                  clear hcf
                  go_wp2
                  go_roundw
                  case rel => exact ⟨k + 1, by trivial, by go_num, trivial, by omega, fun q hq => by
                    by_cases e : q = k
                    · subst e; exact fun h => by have := h.2.2.2; rw [HC3.out] at this; cases this
                    · exact hno2 q (by omega)⟩
                  case measure => simp [intOf]; omega
                | true =>
                  have HC3 := Lib.hid hcf
                  clear hcf
                  go_wp2
                  (try rw [Exit.noGoto_ret])
                  go_ret
                  exact ⟨rfl, true, rfl, by simp; exact ⟨i, by have := HN.out; omega, k, by have := HN.out; omega, hik, HP1.out, HP2.out, HC3.out⟩⟩
        · go_wp2
          go_roundw
          case rel => exact ⟨i + 1, by trivial, by go_num, trivial, by omega, fun p hp q hq => by
            by_cases e : p = i
            · subst e; exact hno2 q (by omega)
            · exact hno p (by omega) q hq⟩
          case measure => simp [intOf]; omega
    · go_wp2
      (try rw [Exit.noGoto_ret])
      go_ret
      exact ⟨rfl, false, rfl, by simp; rintro ⟨p, hp, q, hq, h⟩; have := HN.out; exact hno p (by omega) q (by omega) h⟩
end Go.Proofs.Ytncmikkobngfeaa
namespace Go.Proofs.Ytncmikkobngfeaa
open Go.ChangeShapes Go.WideShapes Go.RowKit
set_option linter.unusedVariables false

theorem made_zeros (n : Nat) : (madeCells #[Value.int .i64 0] n).toList = (List.replicate n (0 : Int)).map (Value.int .i64) := by
  unfold madeCells
  simp [Nat.mod_one, List.map_const']
def lampT (L : List (Int × Int)) (n : Nat) : Nat → List Int
  | 0 => List.replicate n 0
  | k + 1 => (lampT L n k).set k (lmp L k)
theorem lampT_len (L : List (Int × Int)) (n : Nat) : ∀ k, (lampT L n k).length = n
  | 0 => List.length_replicate
  | k + 1 => by rw [lampT, List.length_set, lampT_len L n k]
theorem lampT_at (L : List (Int × Int)) (n : Nat) : ∀ k, k ≤ n → ∀ p, p < k → at_ (lampT L n k) p = lmp L p
  | 0, _, p, hp => absurd hp (by omega)
  | k + 1, hk, p, hp => by
    rw [lampT, at_set (by rw [lampT_len]; omega)]
    by_cases e : p = k
    · subst e; rw [if_pos rfl]
    · rw [if_neg e]; exact lampT_at L n k (by omega) p (by omega)
def seenV (L : List (Int × Int)) (n : Nat) (s : Int) : List Int := if 0 ≤ s ∧ s < n then (lampT L n n).set s.toNat 1 else lampT L n n
theorem seen_len (L : List (Int × Int)) (n : Nat) (s : Int) : (seenV L n s).length = n := by
  unfold seenV; split
  · rw [List.length_set, lampT_len]
  · exact lampT_len L n n
theorem seen_at (L : List (Int × Int)) (n : Nat) (s : Int) (p : Nat) (hp : p < n) : at_ (seenV L n s) p = if (p : Int) = s then 1 else lmp L p := by
  unfold seenV
  by_cases h : 0 ≤ s ∧ s < n
  · rw [if_pos h, at_set (by rw [lampT_len]; omega), lampT_at L n n (Nat.le_refl _) p hp]
    by_cases e : (p : Int) = s
    · rw [if_pos e, if_pos (by omega)]
    · rw [if_neg e, if_neg (by omega)]
  · rw [if_neg h, if_neg (by omega), lampT_at L n n (Nat.le_refl _) p hp]
theorem zeros_nxb {w : World} (n : Nat) (hn : n ≤ 1000) : NxB (w.alloc (.cells (madeCells #[.int .i64 0] n) 3)) w.heap.size (List.replicate n 0) := by
  refine ⟨_, Blk.new, fun i hi => ?_⟩
  rw [List.length_replicate] at hi
  have := congrArg (fun l => l[i]?) (made_zeros n)
  simp only [List.getElem?_map, List.getElem?_replicate, hi, if_true, Option.map_some] at this
  have e : at_ (List.replicate n (0 : Int)) i = 0 := by simp [at_, hi]
  rw [e, ← this]; simp
set_option maxRecDepth 20000 in
set_option maxHeartbeats 1000000 in
theorem seen_any (D : Option Addr) (cL n : Nat) (L : List (Int × Int)) (s : Int) (w : World) (hLn : L.length = n) (hL : Prs w w.heap.size D L) (h8 : n ≤ 60) :
    Calls Try.prog 38 #[.slice D n cL, .int .i64 s] w fun e w' => ∃ (A : Option Addr) (c : Nat), e = .returned (.slice A n c) ∧ Below w.heap.size w w' ∧ Ints .i64 w' w'.heap.size A (seenV L n s) := by
  have HL := Lib.hid hLn
  clear hLn
  go_enter Try.func38, Try.ntmps38
  go_wp2_with (obtain ⟨ii, hi0, hi1, hi2, hi3⟩ := info_parts int_info; refine wpList_make_row _ rfl _ _ 23 rfl 3 ii (.int .i64 0) Try.underlying23 hi0 hi1 hi2 rfl .i64 .i64 n rfl rfl (by rw [hi3]; omega) (by omega) ?_)
  have bM := lat_alloc (Below.refl w.heap.size w) (.cells (madeCells #[.int .i64 0] n) 3)
  have N0 := zeros_nxb (w := w) n (by omega)
  have hgb := N0.lt
  have hL1 := hL.grow bM
  have hne0 : ∀ a, D = some a → 0 < n → a.block < w.heap.size := fun a ha h0 => by
    obtain ⟨b, off, hA, hB, _⟩ := hL (by have := HL.out; omega)
    rw [ha] at hA; injection hA with hA; subst hA; exact hB
  generalize w.alloc (.cells (madeCells #[.int .i64 0] n) 3) = W at *
  obtain ⟨gb, hgbe⟩ : ∃ gb, w.heap.size = gb := ⟨_, rfl⟩
  have HGB := Lib.hid hgbe
  rw [hgbe] at N0 hgb bM hne0 ⊢
  clear hgbe hL
  go_loopw [13] (fun v wr => ∃ i : Nat, i ≤ n ∧ v = .int .i64 i ∧ Below gb w wr ∧ W.heap.size ≤ wr.heap.size ∧ NxB wr gb (lampT L n i) ∧ Prs wr wr.heap.size D L) (fun v _ => n - (intOf v).toNat)
  case atStart => exact ⟨0, by omega, rfl, bM, Nat.le_refl _, N0, hL1⟩
  case round =>
    obtain ⟨i, hi, rfl, hbr, hsr, Nr, Lr⟩ := hrel
    by_cases hlt : i < n
    · have hltZ : (i : Int) < n := by omega
      have LrH := Lib.hid Lr
      obtain ⟨b2, off2, rfl, hbB2, l0, l1⟩ := Lr.at (i := i) (by have := HL.out; omega)
      have B7 := Blk.new (w := wr) (t := 53) (cs := #[.int .i64 (prAt L i).1, .int .i64 (prAt L i).2])
      have bX := lat_alloc (Below.refl wr.heap.size wr) (.cells #[.int .i64 (prAt L i).1, .int .i64 (prAt L i).2] 53)
      have k0 := B7.at 0 rfl
      have Nx := Nr.below bX
      have HD := Lib.hid (show (prAt L i).1 = lmp L i from rfl)
      have HLT := Lib.hid (show lampT L n (i + 1) = (lampT L n i).set i (lmp L i) by rw [lampT])
      have hgl := Nr.lt
      have hneD := Lib.hid (hne0 _ rfl (by omega))
      go_wp2_with (refine step_store_nx (by rfl) (by rfl) (by rfl) (g := gb) (i := i) (by rfl) (by rfl) Nx (by rw [lampT_len]; exact hlt) ?_; intro w5 N5 hg5)
      go_roundw
      case rel => exact ⟨i + 1, hlt, by go_num, Below.grown (hbr.trans (bX.mono (Nat.le_of_lt hgl))) hg5 (Nat.le_trans (Nat.le_of_lt hgl) bX.size) (fun k e => by injection e with e; omega), Nat.le_trans hsr (Nat.le_trans bX.size hg5.size), by rw [HLT.out]; exact N5, (LrH.out.grow bX).keep hg5.size (fun a ha hB => hg5.block _ hB (fun e => by
        injection ha with ha; subst ha; injection e with e
        have := hneD.out; simp at e this; omega))⟩
      case measure => simp [intOf]; omega
    · have hltZ : ¬ (i : Int) < n := by omega
      obtain rfl : n = i := by omega
      have bF : Below w.heap.size w wr := by rw [HGB.out]; exact hbr
      by_cases h0 : 0 ≤ s
      · by_cases h1 : s < n
        · obtain ⟨k, rfl⟩ := Int.eq_ofNat_of_zero_le h0
          have HSV := Lib.hid (show seenV L n k = (lampT L n n).set k 1 by unfold seenV; rw [if_pos ⟨by omega, h1⟩]; rfl)
          have z0 : decide ((0 : Int) ≤ (k : Int)) = true := by simp
          have z1 : decide ((k : Int) < (n : Int)) = true := decide_eq_true h1
          have hkn : k < n := by omega
          go_wp2_with (refine step_store_nx (by rfl) (by rfl) (by rfl) (g := gb) (i := k) (by rfl) (by rfl) Nr (by rw [lampT_len]; exact hkn) ?_; intro w5 N5 hg5)
          go_ret
          have hgl := Nr.lt
          exact ⟨_, ⟨_, rfl⟩, Below.grown bF hg5 bF.size (fun q e => by injection e with e; have := HGB.out; omega), by rw [HSV.out]; exact N5.ints⟩
        · have HSV := Lib.hid (show seenV L n s = lampT L n n by unfold seenV; rw [if_neg (fun h => h1 h.2)])
          have z0 : decide ((0 : Int) ≤ s) = true := decide_eq_true h0
          have z1 : decide (s < (n : Int)) = false := decide_eq_false h1
          go_wp2
          go_ret
          exact ⟨_, ⟨_, rfl⟩, bF, by rw [HSV.out]; exact Nr.ints⟩
      · have HSV := Lib.hid (show seenV L n s = lampT L n n by unfold seenV; rw [if_neg (fun h => h0 h.1)])
        have z0 : decide ((0 : Int) ≤ s) = false := decide_eq_false h0
        go_wp2
        go_ret
        exact ⟨_, ⟨_, rfl⟩, bF, by rw [HSV.out]; exact Nr.ints⟩
theorem pass_red {x : Int} (h : passB x = true) : x ≠ 0 := by
  rintro rfl; revert h; decide
theorem con_has {C : List Int} {n p q : Nat} (hC : C.length = n) (hp : p < n) (hq : q < n) : conB C p q = hasB (at_ C p) q := by
  have e1 : isRowB C p = true := by unfold isRowB; rw [decide_eq_true]; omega
  have e2 : isRowB C q = true := by unfold isRowB; rw [decide_eq_true]; omega
  unfold conB; rw [e1, e2, Bool.true_and, Bool.true_and]; rfl
theorem quiet_none {P : List Ph} {C : List Int} {n : Nat} {st : Int} {c : Ct} (hC : RowsC C n) (h : CtV P C n st c) : ¬ Fb C (seenV c.li n (-1)) := by
  rintro ⟨p, hp, q, hq, hne, h1, h2, h3⟩
  rw [seen_len] at hp hq
  rw [seen_at _ _ _ _ hp, if_neg (by omega)] at h1
  rw [seen_at _ _ _ _ hq, if_neg (by omega)] at h2
  rw [con_has hC.len hp hq, h.no p q hp hq (pass_red h1) (pass_red h2)] at h3
  cases h3
def WantP (C : List Int) (L : List (Int × Int)) (s k : Nat) : Prop := ∃ p, p < k ∧ p ≠ s ∧ hasB (at_ C s) p = true ∧ passB (lmp L p) = true
theorem quiet_stuck {P : List Ph} {C : List Int} {n s : Nat} {st : Int} {c : Ct} (hC : RowsC C n) (h : CtV P C n st c) (hs : s < n) : Fb C (seenV c.li n s) ↔ WantP C c.li s n := by
  constructor
  · rintro ⟨p, hp, q, hq, hne, h1, h2, h3⟩
    rw [seen_len] at hp hq
    rw [seen_at _ _ _ _ hp] at h1
    rw [seen_at _ _ _ _ hq] at h2
    rw [con_has hC.len hp hq] at h3
    by_cases ep : p = s
    · subst ep
      rw [if_neg (by omega)] at h2
      exact ⟨q, hq, by omega, h3, h2⟩
    · rw [if_neg (by omega)] at h1
      by_cases eq : q = s
      · subst eq
        exact ⟨p, hp, ep, by rw [hC.sym q p hq hp]; exact h3, h1⟩
      · rw [if_neg (by omega)] at h2
        rw [h.no p q hp hq (pass_red h1) (pass_red h2)] at h3
        cases h3
  · rintro ⟨p, hp, hne, h1, h2⟩
    refine ⟨s, by rw [seen_len]; exact hs, p, by rw [seen_len]; exact hp, by omega, ?_, ?_, by rw [con_has hC.len hs hp]; exact h1⟩
    · rw [seen_at _ _ _ _ hs, if_pos rfl]; decide
    · rw [seen_at _ _ _ _ hp, if_neg (by omega)]; exact h2
end Go.Proofs.Ytncmikkobngfeaa
