/-
  The groups of a junction, the phases of a ring in a group. Conditions: groups that can be counted.
-/
import Derived.Test.YtkpbkahmbbkcdaaPl
namespace Go.Proofs.Ytkpbkahmbbkcdaa
open Go.ChangeShapes Go.WideShapes Go.RowKit
set_option linter.unusedVariables false

set_option maxHeartbeats 1000000 in
theorem groups_any (A B : Option Addr) (c d : Nat) (P : List Ph) (C : List Int) (st : Int) (w : World) (hP : Phs w w.heap.size A P) (hl : P.length ≤ 60) (hg : ∀ i, i < P.length → 0 ≤ (phAt P i).gr ∧ (phAt P i).gr ≤ 3) :
    Calls Try.prog 38 #[.agg #[.slice A P.length c, .slice B C.length d, .int .i64 st]] w fun e w' => e = .returned (.int .i64 (groupsI P P.length)) ∧ Below w.heap.size w w' := by
  have bW := lat_alloc (Below.refl w.heap.size w) (.cells #[.slice A P.length c, .slice B C.length d, .int .i64 st] 30)
  have BJ := Blk.new (w := w) (t := 30) (cs := #[.slice A P.length c, .slice B C.length d, .int .i64 st])
  have j0 := BJ.at 0 rfl
  clear BJ
  go_enter Try.func38, Try.ntmps38
  go_wp2_with fail
  have hP1 := hP.grow bW
  generalize (w.alloc (.cells #[.slice A P.length c, .slice B C.length d, .int .i64 st] 30)) = W at *
  clear j0
  go_loopw [3, 9] (fun s3 v wr => ∃ i : Nat, i ≤ P.length ∧ s3 = .int .i64 (groupsI P i) ∧ v = .int .i64 i ∧ Below W.heap.size W wr) (fun _ v _ => P.length - (intOf v).toNat)
  case atStart => exact ⟨0, by omega, rfl, rfl, Below.refl _ _⟩
  case round =>
    obtain ⟨i, hi, rfl, rfl, hbr⟩ := hrel
    by_cases hlt : i < P.length
    · have hltZ : (i : Int) < P.length := by omega
      have hPr := (hP1.grow hbr)
      obtain ⟨b, off, rfl, hbB, hph⟩ := hPr.at hlt
      obtain ⟨x0, x1, x2, x3, x4, x5, x6, x7⟩ := hph
      have hgi := hg i hlt
      have hgb := groups_bd hg i (by omega)
      have hgs := Lib.hid (show groupsI P (i + 1) = if groupsI P i < (phAt P i).gr + 1 then (phAt P i).gr + 1 else groupsI P i by rw [groupsI])
      have B5 := Blk.new (w := wr) (t := 51) (cs := #[.int .i64 (phAt P i).ri, .int .i64 (phAt P i).gr, .int .i64 (phAt P i).mn, .int .i64 (phAt P i).mx, .int .i64 (phAt P i).yl, .int .i64 (phAt P i).rd, .int .i64 (phAt P i).wk, .int .i64 (phAt P i).cl])
      have k1 := B5.at 1 rfl
      clear B5
      generalize phAt P i = p at *
      generalize groupsI P i = G at *
      have bX := lat_alloc hbr (.cells #[.int .i64 p.ri, .int .i64 p.gr, .int .i64 p.mn, .int .i64 p.mx, .int .i64 p.yl, .int .i64 p.rd, .int .i64 p.wk, .int .i64 p.cl] 51)
      by_cases hm : G < p.gr + 1
      · have zz : max G (p.gr + 1) = p.gr + 1 := by omega
        go_wp2
        go_roundw
        case rel => exact ⟨i + 1, hlt, by rw [hgs.out, if_pos hm], by go_num, bX⟩
        case measure => simp [intOf]; omega
      · have zz : max G (p.gr + 1) = G := by omega
        go_wp2
        go_roundw
        case rel => exact ⟨i + 1, hlt, by rw [hgs.out, if_neg hm], by go_num, bX⟩
        case measure => simp [intOf]; omega
    · have hltZ : ¬ (i : Int) < P.length := by omega
      have he : i = P.length := by omega
      subst he
      go_wp2
      go_ret
      exact ⟨rfl, bW.trans (hbr.mono bW.size)⟩
end Go.Proofs.Ytkpbkahmbbkcdaa
namespace Go.Proofs.Ytkpbkahmbbkcdaa
open Go.ChangeShapes Go.WideShapes Go.RowKit
set_option linter.unusedVariables false

set_option maxHeartbeats 1000000 in
theorem of_any (A B : Option Addr) (c d : Nat) (P : List Ph) (C : List Int) (st r g : Int) (w : World) (hP : Phs w w.heap.size A P) (hl : P.length ≤ 60) :
    Calls Try.prog 72 #[.agg #[.slice A P.length c, .slice B C.length d, .int .i64 st], .int .i64 r, .int .i64 g] w fun e w' => Below w.heap.size w w' ∧ ∃ (A' : Option Addr) (c' : Nat), e = .returned (.slice A' (ofL P r g P.length).length c') ∧ Ints .i64 w' w'.heap.size A' (ofL P r g P.length) := by
  have bW := lat_alloc (Below.refl w.heap.size w) (.cells #[.slice A P.length c, .slice B C.length d, .int .i64 st] 30)
  have BJ := Blk.new (w := w) (t := 30) (cs := #[.slice A P.length c, .slice B C.length d, .int .i64 st])
  have j0 := BJ.at 0 rfl
  clear BJ
  go_enter Try.func72, Try.ntmps72
  go_wp2_with fail
  have hP1 := hP.grow bW
  have hWs : w.heap.size ≤ (w.alloc (.cells #[.slice A P.length c, .slice B C.length d, .int .i64 st] 30)).heap.size := bW.size
  generalize (w.alloc (.cells #[.slice A P.length c, .slice B C.length d, .int .i64 st] 30)) = W at *
  clear j0
  go_loopw [7, 13] (fun s7 v wr => ∃ (i : Nat) (vv : Value), i ≤ P.length ∧ s7 = vv ∧ v = .int .i64 i ∧ Below W.heap.size W wr ∧ Own .i64 3 wr W.heap.size vv (ofL P r g i)) (fun _ v _ => P.length - (intOf v).toNat)
  case atStart => exact ⟨0, _, by omega, rfl, rfl, Below.refl _ _, Own.nil_ _ _ _ _⟩
  case round =>
    obtain ⟨i, v, hi, rfl, rfl, hbr, hown⟩ := hrel
    by_cases hlt : i < P.length
    · have hltZ : (i : Int) < P.length := by omega
      have hPr := (hP1.grow hbr)
      obtain ⟨b, off, rfl, hbB, hph⟩ := hPr.at hlt
      obtain ⟨x0, x1, x2, x3, x4, x5, x6, x7⟩ := hph
      have hoF := Lib.hid (show ofL P r g (i + 1) = if (phAt P i).ri = r ∧ (phAt P i).gr = g then ofL P r g i ++ [(i : Int)] else ofL P r g i by rw [ofL])
      have hle := of_le P r g i
      have B5 := Blk.new (w := wr) (t := 51) (cs := #[.int .i64 (phAt P i).ri, .int .i64 (phAt P i).gr, .int .i64 (phAt P i).mn, .int .i64 (phAt P i).mx, .int .i64 (phAt P i).yl, .int .i64 (phAt P i).rd, .int .i64 (phAt P i).wk, .int .i64 (phAt P i).cl])
      have k0 := B5.at 0 rfl
      have k1 := B5.at 1 rfl
      clear B5
      generalize phAt P i = p at *
      have bX := lat_alloc hbr (.cells #[.int .i64 p.ri, .int .i64 p.gr, .int .i64 p.mn, .int .i64 p.mx, .int .i64 p.yl, .int .i64 p.rd, .int .i64 p.wk, .int .i64 p.cl] 51)
      by_cases h1 : p.ri = r
      · by_cases h2 : p.gr = g
        · have y1 : (p.ri == r) = true := by simpa using h1
          have y2 : (p.gr == g) = true := by simpa using h2
          have hoE := Lib.hid (show ofL P r g (i + 1) = ofL P r g i ++ [(i : Int)] by rw [hoF.out, if_pos ⟨h1, h2⟩])
          clear h1 h2
          clear hoF
          generalize ofL P r g i = O at *
          go_wp2_with (at_builtin; refine wpList_append_ints rfl (.tmp 28) (.tmp 30) _ rfl W.heap.size 3 .i64 8 Try.underlying23 int_info _ O rfl ((hown.alloc _).alloc _) _ 1 [(i : Int)] 1 rfl rfl (ints_at' (by rw [heap_size])) (by simp; omega) (by omega) (by rw [heap_size, heap_size]; have := hbr.size; omega) ?_; intro v3 w3 hown3 hg3 hat3; have hb3 : Below W.heap.size W w3 := ((bX).alloc bX.size _).grown hg3 ((bX).alloc bX.size _).size (fun k hk => (hown.lt hk).1))
          go_roundw
          case rel => exact ⟨i + 1, v3, hlt, rfl, by go_num, hb3, by rw [hoE.out]; exact hown3⟩
          case measure => simp [intOf]; omega
        · have y1 : (p.ri == r) = true := by simpa using h1
          have y2 : (p.gr == g) = false := by simpa using h2
          have hoE := Lib.hid (show ofL P r g (i + 1) = ofL P r g i by rw [hoF.out, if_neg (fun h => h2 h.2)])
          clear h1 h2
          clear hoF
          go_wp2
          go_roundw
          case rel => exact ⟨i + 1, _, hlt, rfl, by go_num, bX, by rw [hoE.out]; exact hown.alloc _⟩
          case measure => simp [intOf]; omega
      · have y1 : (p.ri == r) = false := by simpa using h1
        have hoE := Lib.hid (show ofL P r g (i + 1) = ofL P r g i by rw [hoF.out, if_neg (fun h => h1 h.1)])
        clear h1
        clear hoF
        go_wp2
        go_roundw
        case rel => exact ⟨i + 1, _, hlt, rfl, by go_num, bX, by rw [hoE.out]; exact hown.alloc _⟩
        case measure => simp [intOf]; omega
    · have hltZ : ¬ (i : Int) < P.length := by omega
      have he : i = P.length := by omega
      subst he
      obtain ⟨A', c', hv, _, _, hI⟩ := hown.ints
      subst hv
      go_wp2
      go_ret
      exact ⟨bW.trans (hbr.mono bW.size), A', ⟨c', rfl⟩, hI⟩
end Go.Proofs.Ytkpbkahmbbkcdaa
namespace Go.Proofs.Ytkpbkahmbbkcdaa
open Go.ChangeShapes Go.WideShapes Go.RowKit
set_option linter.unusedVariables false

theorem con_c (C : List Int) (A : Option Addr) (cA m p q : Nat) (w : World) (hm : C.length = m) (hs : Ints .i64 w w.heap.size A C) (hl : m ≤ 60) (hp : p < m) (hq : q < m) {b : Bool} (h : hasB (at_ C p) q = b) : Calls Try.prog 66 #[.slice A m cA, .int .i64 p, .int .i64 q] w fun e w' => e = .returned (.bool b) ∧ w = w' := by
  have := conflict_any A C cA w.heap.size p q w hs (by omega)
  rw [hm] at this
  have e1 : isRowB C p = true := by unfold isRowB; rw [decide_eq_true]; omega
  have e2 : isRowB C q = true := by unfold isRowB; rw [decide_eq_true]; omega
  have e : conB C p q = b := by unfold conB; rw [e1, e2, Bool.true_and, Bool.true_and, ← h]; rfl
  rw [e] at this
  exact this
/-- The phases p and q break the rule. -/
def Bad (P : List Ph) (C : List Int) (p q : Nat) : Prop := needB P p q = true ∧ hasB (at_ C p) q = false
set_option maxHeartbeats 2000000 in
theorem apart_any (A B : Option Addr) (c d n : Nat) (P : List Ph) (C : List Int) (st : Int) (w : World) (hn : P.length = n) (hC : C.length = n) (hP : Phs w w.heap.size A P) (hI : Ints .i64 w w.heap.size B C) (hl : n ≤ 60) (hc : n ≤ c) :
    Calls Try.prog 63 #[.agg #[.slice A n c, .slice B n d, .int .i64 st]] w fun e w' => Below w.heap.size w w' ∧ ∃ r : Bool, e = .returned (.bool r) ∧ (r = true ↔ ∀ p, p < n → ∀ q, q < p → needB P p q = true → hasB (at_ C p) q = true) := by
  have HN := Lib.hid hn
  have HC := Lib.hid hC
  clear hn hC
  have bW := lat_alloc (Below.refl w.heap.size w) (.cells #[.slice A n c, .slice B n d, .int .i64 st] 30)
  have BJ := Blk.new (w := w) (t := 30) (cs := #[.slice A n c, .slice B n d, .int .i64 st])
  have hP1 := hP.grow bW
  have hI1 := hI.grow bW
  have j0 := BJ.at 0 rfl
  go_enter Try.func63, Try.ntmps63
  go_wp2_with fail
  generalize w.alloc (.cells #[.slice A n c, .slice B n d, .int .i64 st] 30) = W at *
  go_step3
  go_wp2
  go_step3
  go_wp2
  clear j0
  go_loopw [3, 11] (fun s3 v wr => ∃ i : Nat, s3 = .bool true ∧ v = .int .i64 i ∧ Below W.heap.size W wr ∧ i ≤ n ∧ ∀ p, p < i → ∀ q, q < p → ¬ Bad P C p q) (fun _ v _ => n - (intOf v).toNat)
  case atStart => exact ⟨0, rfl, rfl, Below.refl _ _, by omega, fun p hp => absurd hp (by omega)⟩
  case round =>
    obtain ⟨i, rfl, rfl, hbr, hi, hno⟩ := hrel
    by_cases hlt : i < n
    · have hltZ : (i : Int) < n := by omega
      have hic : i ≤ c := by omega
      obtain ⟨b, off, rfl, hbB, hph⟩ := (hP1.grow hbr).at (i := i) (by have := HN.out; omega)
      obtain ⟨x0, x1, x2, x3, x4, x5, x6, x7⟩ := hph
      have BJr := BJ.below hbr
      have j0 := BJr.at 0 rfl
      have hph5 := Blk.new (w := wr) (t := 51) (cs := #[.int .i64 (phAt P i).ri, .int .i64 (phAt P i).gr, .int .i64 (phAt P i).mn, .int .i64 (phAt P i).mx, .int .i64 (phAt P i).yl, .int .i64 (phAt P i).rd, .int .i64 (phAt P i).wk, .int .i64 (phAt P i).cl])
      have bX := lat_alloc hbr (.cells #[.int .i64 (phAt P i).ri, .int .i64 (phAt P i).gr, .int .i64 (phAt P i).mn, .int .i64 (phAt P i).mx, .int .i64 (phAt P i).yl, .int .i64 (phAt P i).rd, .int .i64 (phAt P i).wk, .int .i64 (phAt P i).cl] 51)
      have hg5 := hph5.lt
      have BJx := BJr.alloc (.cells #[.int .i64 (phAt P i).ri, .int .i64 (phAt P i).gr, .int .i64 (phAt P i).mn, .int .i64 (phAt P i).mx, .int .i64 (phAt P i).yl, .int .i64 (phAt P i).rd, .int .i64 (phAt P i).wk, .int .i64 (phAt P i).cl] 51)
      have j0x := BJx.at 0 rfl
      have hPi : ∀ k, needB P i k = (decide ((phAt P i).ri = (phAt P k).ri) || !decide ((phAt P i).gr = (phAt P k).gr)) := fun k => rfl
      have HPi := Lib.hid hPi
      clear hPi
      generalize phAt P i = p at *
      go_wp2
      clear x0 x1 x2 x3 x4 x5 x6 x7 j0 j0x
      generalize wr.alloc (.cells #[.int .i64 p.ri, .int .i64 p.gr, .int .i64 p.mn, .int .i64 p.mx, .int .i64 p.yl, .int .i64 p.rd, .int .i64 p.wk, .int .i64 p.cl] 51) = W5 at *
      generalize wr.heap.size = g5 at *
      have hW5 := bX.size
      go_loopw [3, 21] (fun s3 v wr => ∃ k : Nat, s3 = .bool true ∧ v = .int .i64 k ∧ Below W5.heap.size W5 wr ∧ k ≤ i ∧ ∀ q, q < k → ¬ Bad P C i q) (fun _ v _ => i - (intOf v).toNat)
      case atStart => exact ⟨0, rfl, rfl, Below.refl _ _, by omega, fun p hp => absurd hp (by omega)⟩
      case round =>
        obtain ⟨k, rfl, rfl, hbs, hk, hno2⟩ := hrel
        by_cases hlt2 : k < i
        · have hlt2Z : (k : Int) < i := by omega
          have hbt := bX.trans (hbs.mono bX.size)
          obtain ⟨b', off', hA', hbB', hph'⟩ := (hP1.grow hbt).at (i := k) (by have := HN.out; omega)
          have hA'' := Option.some.inj hA'
          injection hA'' with hA1 hA2 _
          subst hA1; subst hA2
          clear hA'
          obtain ⟨x0, x1, x2, x3, x4, x5, x6, x7⟩ := hph'
          have H5 := hph5.below hbs
          have H5' := H5.alloc (.cells #[.int .i64 (phAt P k).ri, .int .i64 (phAt P k).gr, .int .i64 (phAt P k).mn, .int .i64 (phAt P k).mx, .int .i64 (phAt P k).yl, .int .i64 (phAt P k).rd, .int .i64 (phAt P k).wk, .int .i64 (phAt P k).cl] 51)
          have m0 := H5'.at 0 rfl
          have m1 := H5'.at 1 rfl
          have HN7 := Blk.new (w := wr) (t := 51) (cs := #[.int .i64 (phAt P k).ri, .int .i64 (phAt P k).gr, .int .i64 (phAt P k).mn, .int .i64 (phAt P k).mx, .int .i64 (phAt P k).yl, .int .i64 (phAt P k).rd, .int .i64 (phAt P k).wk, .int .i64 (phAt P k).cl])
          have n0 := HN7.at 0 rfl
          have n1 := HN7.at 1 rfl
          have BJ7 := (BJx.below hbs).alloc (.cells #[.int .i64 (phAt P k).ri, .int .i64 (phAt P k).gr, .int .i64 (phAt P k).mn, .int .i64 (phAt P k).mx, .int .i64 (phAt P k).yl, .int .i64 (phAt P k).rd, .int .i64 (phAt P k).wk, .int .i64 (phAt P k).cl] 51)
          have j1 := BJ7.at 1 rfl
          have bY := lat_alloc hbs (.cells #[.int .i64 (phAt P k).ri, .int .i64 (phAt P k).gr, .int .i64 (phAt P k).mn, .int .i64 (phAt P k).mx, .int .i64 (phAt P k).yl, .int .i64 (phAt P k).rd, .int .i64 (phAt P k).wk, .int .i64 (phAt P k).cl] 51)
          have bZ := bX.trans (bY.mono bX.size)
          have hI7 := hI1.grow bZ
          have HQ := Lib.hid (HPi.out k)
          clear H5 H5' HN7 BJ7
          generalize phAt P k = q at *
          by_cases h1 : p.ri = q.ri
          · have y1 : (p.ri == q.ri) = true := by simpa using h1
            have HB := Lib.hid (show needB P i k = true by rw [HQ.out]; simp [h1])
            clear h1
            cases hh : hasB (at_ C i) k with
            | false =>
              have HH := Lib.hid hh
              clear hh
              go_wp2_with fail
              refine (con_c C B d n i k _ HC.out hI7 hl hlt (by omega) HH.out).mono ?_
              rintro e w' ⟨rfl, rfl⟩
              go_wp2
              (try rw [Exit.noGoto_ret])
              go_ret
              exact ⟨bW.trans (bZ.mono bW.size), false, rfl, by
                simp only [Bool.false_eq_true, false_iff]
                intro h
                have := h i hlt k hlt2 HB.out
                rw [HH.out] at this; cases this⟩
            | true =>
              have HH := Lib.hid hh
              clear hh
              go_wp2_with fail
              refine (con_c C B d n i k _ HC.out hI7 hl hlt (by omega) HH.out).mono ?_
              rintro e w' ⟨rfl, rfl⟩
              go_wp2
              go_roundw
              case rel => exact ⟨k + 1, rfl, by go_num, bY, by omega, fun r hr => by
                by_cases e : r = k
                · subst e; exact fun h => by have := h.2; rw [HH.out] at this; cases this
                · exact hno2 r (by omega)⟩
              case measure => simp [intOf]; omega
          · have y1 : (p.ri == q.ri) = false := by simpa using h1
            by_cases h2 : p.gr = q.gr
            · have y2 : (p.gr != q.gr) = false := by simpa using h2
              have HB := Lib.hid (show needB P i k = false by rw [HQ.out]; simp [h1, h2])
              clear h1 h2
              go_wp2
              go_roundw
              case rel => exact ⟨k + 1, rfl, by go_num, bY, by omega, fun r hr => by
                by_cases e : r = k
                · subst e; exact fun h => by have := h.1; rw [HB.out] at this; cases this
                · exact hno2 r (by omega)⟩
              case measure => simp [intOf]; omega
            · have y2 : (p.gr != q.gr) = true := by simpa using h2
              have HB := Lib.hid (show needB P i k = true by rw [HQ.out]; simp [h1, h2])
              clear h1 h2
              cases hh : hasB (at_ C i) k with
              | false =>
                have HH := Lib.hid hh
                clear hh
                go_wp2_with fail
                refine (con_c C B d n i k _ HC.out hI7 hl hlt (by omega) HH.out).mono ?_
                rintro e w' ⟨rfl, rfl⟩
                go_wp2
                (try rw [Exit.noGoto_ret])
                go_ret
                exact ⟨bW.trans (bZ.mono bW.size), false, rfl, by
                  simp only [Bool.false_eq_true, false_iff]
                  intro h
                  have := h i hlt k hlt2 HB.out
                  rw [HH.out] at this; cases this⟩
              | true =>
                have HH := Lib.hid hh
                clear hh
                go_wp2_with fail
                refine (con_c C B d n i k _ HC.out hI7 hl hlt (by omega) HH.out).mono ?_
                rintro e w' ⟨rfl, rfl⟩
                go_wp2
                go_roundw
                case rel => exact ⟨k + 1, rfl, by go_num, bY, by omega, fun r hr => by
                  by_cases e : r = k
                  · subst e; exact fun h => by have := h.2; rw [HH.out] at this; cases this
                  · exact hno2 r (by omega)⟩
                case measure => simp [intOf]; omega
        · go_wp2
          go_roundw
          case rel => exact ⟨i + 1, rfl, by go_num, bX.trans (hbs.mono bX.size), by omega, fun p hp q hq => by
            by_cases e : p = i
            · subst e; exact hno2 q (by omega)
            · exact hno p (by omega) q hq⟩
          case measure => simp [intOf]; omega
    · go_wp2
      (try rw [Exit.noGoto_ret])
      go_ret
      exact ⟨bW.trans (hbr.mono bW.size), true, rfl, by
        simp only [true_iff]
        intro p hp q hq h1
        cases h2 : hasB (at_ C p) q with
        | true => rfl
        | false => exact absurd ⟨h1, h2⟩ (hno p (by omega) q hq)⟩
end Go.Proofs.Ytkpbkahmbbkcdaa
