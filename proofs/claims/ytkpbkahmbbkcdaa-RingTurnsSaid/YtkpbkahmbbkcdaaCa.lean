/-
  Which phase a ring is to begin with a target. Conditions: as many rows and lights as phases.
-/
import Derived.Test.YtkpbkahmbbkcdaaIc
namespace Go.Proofs.Ytkpbkahmbbkcdaa
open Go.ChangeShapes Go.WideShapes Go.RowKit
set_option linter.unusedVariables false

theorem rconflict_any (A : Option Addr) (l : List Int) (c B : Nat) (p q : Int) (w : World) (hs : Ints .i64 w B A l) (hl : l.length ≤ 60) : Calls Try.prog 29 #[.slice A l.length c, .int .i64 p, .int .i64 q] w fun e w' => e = .returned (.bool (conB l p q)) ∧ w = w' := by
  go_enter Try.func29, Try.ntmps29
  by_cases hp0 : 0 ≤ p
  · by_cases hp1 : p < (l.length : Int)
    · have e1 : isRowB l p = true := by simp [isRowB, hp0, hp1]
      obtain ⟨n, rfl⟩ : ∃ n : Nat, p = n := ⟨p.toNat, by omega⟩
      have hn : n < l.length := by omega
      obtain ⟨b, off, rfl, hbB, hc⟩ := hs (by omega)
      have hcell := hc n hn
      clear hc hs
      by_cases hq0 : 0 ≤ q
      · by_cases hq1 : q < (l.length : Int)
        · have e2 : isRowB l q = true := by simp [isRowB, hq0, hq1]
          obtain ⟨k, rfl⟩ : ∃ k : Nat, q = k := ⟨q.toNat, by omega⟩
          have hk : k < 62 := by omega
          go_wp2
          go_ret
          exact ⟨by simp [conB, e1, e2, hasB, and_1], rfl⟩
        · have e2 : isRowB l q = false := by simp [isRowB]; omega
          go_wp2
          go_ret
          exact ⟨by simp [conB, e1, e2], rfl⟩
      · have e2 : isRowB l q = false := by simp [isRowB]; omega
        go_wp2
        go_ret
        exact ⟨by simp [conB, e1, e2], rfl⟩
    · have e1 : isRowB l p = false := by simp [isRowB]; omega
      go_wp2
      go_ret
      exact ⟨by simp [conB, e1], rfl⟩
  · have e1 : isRowB l p = false := by simp [isRowB]; omega
    go_wp2
    go_ret
    exact ⟨by simp [conB, e1], rfl⟩
theorem rcon_c (C : List Int) (A : Option Addr) (cA m p q : Nat) (w : World) (hm : C.length = m) (hs : Ints .i64 w w.heap.size A C) (hl : m ≤ 60) (hp : p < m) (hq : q < m) {b : Bool} (h : hasB (at_ C p) q = b) : Calls Try.prog 29 #[.slice A m cA, .int .i64 p, .int .i64 q] w fun e w' => e = .returned (.bool b) ∧ w = w' := by
  have := rconflict_any A C cA w.heap.size p q w hs (by omega)
  rw [hm] at this
  have e1 : isRowB C p = true := by unfold isRowB; rw [decide_eq_true]; omega
  have e2 : isRowB C q = true := by unfold isRowB; rw [decide_eq_true]; omega
  have e : conB C p q = b := by unfold conB; rw [e1, e2, Bool.true_and, Bool.true_and, ← h]; rfl
  rw [e] at this
  exact this
set_option maxHeartbeats 2000000 in
theorem candidate_any (A B D E : Option Addr) (cP d cL cX n : Nat) (P : List Ph) (C nx : List Int) (st g wt : Int) (r t : Nat) (w : World) (hn : P.length = n) (hP : Phs w w.heap.size A P) (hCn : C.length = n) (hC : Ints .i64 w w.heap.size B C) (hXn : nx.length = 2) (hX : Ints .i64 w w.heap.size E nx) (h8 : n ≤ 60) (hr : r < 2) (ht : t < n) :
    Calls Try.prog 55 #[.agg #[.slice A n cP, .slice B n d, .int .i64 st], .agg #[.slice D n cL, .int .i64 g, .slice E 2 cX, .int .i64 wt], .int .i64 r, .int .i64 t] w fun e w' => e = .returned (.int .i64 (candV P C n (at_ nx r) r t)) ∧ Below w.heap.size w w' := by
  have HN := Lib.hid hn
  have HC := Lib.hid hCn
  have HX := Lib.hid hXn
  clear hn hCn hXn
  have bW := lat_alloc (lat_alloc (Below.refl w.heap.size w) (.cells #[.slice A n cP, .slice B n d, .int .i64 st] 30)) (.cells #[.slice D n cL, .int .i64 g, .slice E 2 cX, .int .i64 wt] 25)
  have BJ := (Blk.new (w := w) (t := 30) (cs := #[.slice A n cP, .slice B n d, .int .i64 st])).alloc (.cells #[.slice D n cL, .int .i64 g, .slice E 2 cX, .int .i64 wt] 25)
  have BC := Blk.new (w := w.alloc (.cells #[.slice A n cP, .slice B n d, .int .i64 st] 30)) (t := 25) (cs := #[.slice D n cL, .int .i64 g, .slice E 2 cX, .int .i64 wt])
  rw [heap_size] at BC
  have hP1 := hP.grow bW
  have hC1 := hC.grow bW
  have hX1 := hX.grow bW
  have htZ : (t : Int) < n := by omega
  obtain ⟨bp, offp, rfl, hbP, hpt⟩ := hP1.at (i := t) (by have := HN.out; omega)
  obtain ⟨y0, y1, y2, y3, y4, y5, y6, y7⟩ := hpt
  have j0 := BJ.at 0 rfl
  obtain ⟨rt, hrt⟩ : ∃ rt, (phAt P t).ri = rt := ⟨_, rfl⟩
  rw [hrt] at y0
  have HRT := Lib.hid hrt
  clear hrt y1 y2 y3 y4 y5 y6 y7
  by_cases h0 : rt = (r : Int)
  · have z0 : (rt == (r : Int)) = true := by simpa using h0
    have HV := Lib.hid (show candV P C n (at_ nx r) r t = t by unfold candV; rw [HRT.out, if_pos h0])
    clear h0
    go_enter Try.func55, Try.ntmps55
    go_wp2
    go_ret
    exact ⟨ret_i HV.out.symm, bW⟩
  have z0 : (rt == (r : Int)) = false := by simpa using h0
  have HV := Lib.hid (show candV P C n (at_ nx r) r t = candF P C (at_ nx r) r t 0 n (-1) by unfold candV; rw [HRT.out, if_neg h0])
  clear h0
  go_enter Try.func55, Try.ntmps55
  go_wp2_with fail
  generalize (w.alloc (.cells #[.slice (some ⟨bp, offp, none⟩) n cP, .slice B n d, .int .i64 st] 30)).alloc (.cells #[.slice D n cL, .int .i64 g, .slice E 2 cX, .int .i64 wt] 25) = W at *
  clear j0 y0 z0
  go_loopw [9, 24] (fun s9 v wr => ∃ (i : Nat) (f : Int), i ≤ n ∧ s9 = .int .i64 f ∧ -1 ≤ f ∧ f < 60 ∧ v = .int .i64 i ∧ Below W.heap.size W wr ∧ Go.RowKit.Hid (candF P C (at_ nx r) r t 0 n (-1) = candF P C (at_ nx r) r t i (n - i) f)) (fun _ v _ => n - (intOf v).toNat)
  case atStart => exact ⟨0, -1, by omega, rfl, by omega, by omega, rfl, Below.refl _ _, Lib.hid rfl⟩
  case round =>
    obtain ⟨i, f, hi, rfl, hf0, hf1, rfl, hbr, HF⟩ := hrel
    by_cases hlt : i < n
    · have hltZ : (i : Int) < n := by omega
      obtain ⟨b, off, hA', hbB, hph⟩ := (hP1.grow hbr).at (i := i) (by have := HN.out; omega)
      injection Option.some.inj hA' with hA2 hA3 _
      subst hA2; subst hA3
      clear hA'
      obtain ⟨x0, x1, x2, x3, x4, x5, x6, x7⟩ := hph
      have B11 := Blk.new (w := wr) (t := 51) (cs := #[.int .i64 (phAt P i).ri, .int .i64 (phAt P i).gr, .int .i64 (phAt P i).mn, .int .i64 (phAt P i).mx, .int .i64 (phAt P i).yl, .int .i64 (phAt P i).rd, .int .i64 (phAt P i).wk, .int .i64 (phAt P i).cl])
      have bX := lat_alloc hbr (.cells #[.int .i64 (phAt P i).ri, .int .i64 (phAt P i).gr, .int .i64 (phAt P i).mn, .int .i64 (phAt P i).mx, .int .i64 (phAt P i).yl, .int .i64 (phAt P i).rd, .int .i64 (phAt P i).wk, .int .i64 (phAt P i).cl] 51)
      have BJr := (BJ.below hbr).alloc (.cells #[.int .i64 (phAt P i).ri, .int .i64 (phAt P i).gr, .int .i64 (phAt P i).mn, .int .i64 (phAt P i).mx, .int .i64 (phAt P i).yl, .int .i64 (phAt P i).rd, .int .i64 (phAt P i).wk, .int .i64 (phAt P i).cl] 51)
      have BCr := (BC.below hbr).alloc (.cells #[.int .i64 (phAt P i).ri, .int .i64 (phAt P i).gr, .int .i64 (phAt P i).mn, .int .i64 (phAt P i).mx, .int .i64 (phAt P i).yl, .int .i64 (phAt P i).rd, .int .i64 (phAt P i).wk, .int .i64 (phAt P i).cl] 51)
      have k0 := B11.at 0 rfl
      have j1 := BJr.at 1 rfl
      have c2 := BCr.at 2 rfl
      have hC2 := hC1.grow bX
      obtain ⟨be, offe, rfl, hbE, hce⟩ := (hX1.grow bX) (by have := HX.out; omega)
      have hcr := hce r (by have := HX.out; omega)
      have hrZ : (r : Int) < 2 := by omega
      clear hce
      have hsuc : n - i = (n - (i + 1)) + 1 := by omega
      have HS := Lib.hid (show candF P C (at_ nx r) r t i (n - i) f = if (phAt P i).ri ≠ (r : Int) ∨ hasB (at_ C i) t = true then candF P C (at_ nx r) r t (i + 1) (n - (i + 1)) f else if 0 ≤ at_ nx r ∧ at_ nx r ≤ (i : Int) then (i : Int) else candF P C (at_ nx r) r t (i + 1) (n - (i + 1)) (if f < 0 then (i : Int) else f) by rw [hsuc, candF])
      clear hsuc B11 BJr BCr
      generalize phAt P i = p at *
      have HNR := Lib.hid (show ∀ x, at_ nx r = x → x = at_ nx r from fun x h => h.symm)
      obtain ⟨nr, hnr⟩ : ∃ nr, at_ nx r = nr := ⟨_, rfl⟩
      rw [hnr] at hcr HS HF HV
      have HNR := Lib.hid hnr
      clear hnr
      by_cases h1 : p.ri = (r : Int)
      · have z1 : (p.ri != (r : Int)) = false := by simpa using h1
        cases h2 : hasB (at_ C i) t with
        | true =>
          have H2 := Lib.hid h2
          have HS2 := Lib.hid (HS.out.trans (if_pos (.inr h2)))
          clear h1 h2
          go_wp2_with fail
          refine (rcon_c C B d n i t _ HC.out hC2 h8 hlt ht H2.out).mono ?_
          rintro e w' ⟨rfl, rfl⟩
          go_wp2
          go_roundw
          case rel => exact ⟨i + 1, f, hlt, rfl, hf0, hf1, by go_num, bX, Lib.hid (by rw [HNR.out]; exact HF.out.trans HS2.out)⟩
          case measure => simp [intOf]; omega
        | false =>
          have H2 := Lib.hid h2
          have HS2 := Lib.hid (HS.out.trans (if_neg (by rw [h1, h2]; simp)))
          clear h1 h2
          by_cases h5 : f < 0
          · have z5 : decide (f < 0) = true := decide_eq_true h5
            have HF5 := Lib.hid (show (if f < 0 then (i : Int) else f) = i from if_pos h5)
            clear h5
            by_cases h3 : 0 ≤ nr
            · by_cases h4 : nr ≤ (i : Int)
              · have z3 : decide (0 ≤ nr) = true := decide_eq_true h3
                have z4 : decide (nr ≤ (i : Int)) = true := decide_eq_true h4
                have HS3 := Lib.hid (HS2.out.trans (if_pos ⟨h3, h4⟩))
                clear h3 h4
                go_wp2_with fail
                refine (rcon_c C B d n i t _ HC.out hC2 h8 hlt ht H2.out).mono ?_
                rintro e w' ⟨rfl, rfl⟩
                go_wp2
                go_ret
                exact ⟨ret_i (by rw [HNR.out, HV.out, HF.out, HS3.out]), bW.trans (bX.mono bW.size)⟩
              · have z3 : decide (0 ≤ nr) = true := decide_eq_true h3
                have z4 : decide (nr ≤ (i : Int)) = false := decide_eq_false h4
                have HS3 := Lib.hid ((HS2.out.trans (if_neg (fun h => h4 h.2))).trans (by rw [HF5.out]))
                clear h3 h4
                go_wp2_with fail
                refine (rcon_c C B d n i t _ HC.out hC2 h8 hlt ht H2.out).mono ?_
                rintro e w' ⟨rfl, rfl⟩
                go_wp2
                go_roundw
                case rel => exact ⟨i + 1, i, hlt, rfl, by omega, by omega, by go_num, bX, Lib.hid (by rw [HNR.out]; exact HF.out.trans HS3.out)⟩
                case measure => simp [intOf]; omega
            · have z3 : decide (0 ≤ nr) = false := decide_eq_false h3
              have HS3 := Lib.hid ((HS2.out.trans (if_neg (fun h => h3 h.1))).trans (by rw [HF5.out]))
              clear h3
              go_wp2_with fail
              refine (rcon_c C B d n i t _ HC.out hC2 h8 hlt ht H2.out).mono ?_
              rintro e w' ⟨rfl, rfl⟩
              go_wp2
              go_roundw
              case rel => exact ⟨i + 1, i, hlt, rfl, by omega, by omega, by go_num, bX, Lib.hid (by rw [HNR.out]; exact HF.out.trans HS3.out)⟩
              case measure => simp [intOf]; omega
          · have z5 : decide (f < 0) = false := decide_eq_false h5
            have HF5 := Lib.hid (show (if f < 0 then (i : Int) else f) = f from if_neg h5)
            clear h5
            by_cases h3 : 0 ≤ nr
            · by_cases h4 : nr ≤ (i : Int)
              · have z3 : decide (0 ≤ nr) = true := decide_eq_true h3
                have z4 : decide (nr ≤ (i : Int)) = true := decide_eq_true h4
                have HS3 := Lib.hid (HS2.out.trans (if_pos ⟨h3, h4⟩))
                clear h3 h4
                go_wp2_with fail
                refine (rcon_c C B d n i t _ HC.out hC2 h8 hlt ht H2.out).mono ?_
                rintro e w' ⟨rfl, rfl⟩
                go_wp2
                go_ret
                exact ⟨ret_i (by rw [HNR.out, HV.out, HF.out, HS3.out]), bW.trans (bX.mono bW.size)⟩
              · have z3 : decide (0 ≤ nr) = true := decide_eq_true h3
                have z4 : decide (nr ≤ (i : Int)) = false := decide_eq_false h4
                have HS3 := Lib.hid ((HS2.out.trans (if_neg (fun h => h4 h.2))).trans (by rw [HF5.out]))
                clear h3 h4
                go_wp2_with fail
                refine (rcon_c C B d n i t _ HC.out hC2 h8 hlt ht H2.out).mono ?_
                rintro e w' ⟨rfl, rfl⟩
                go_wp2
                go_roundw
                case rel => exact ⟨i + 1, f, hlt, rfl, by omega, by omega, by go_num, bX, Lib.hid (by rw [HNR.out]; exact HF.out.trans HS3.out)⟩
                case measure => simp [intOf]; omega
            · have z3 : decide (0 ≤ nr) = false := decide_eq_false h3
              have HS3 := Lib.hid ((HS2.out.trans (if_neg (fun h => h3 h.1))).trans (by rw [HF5.out]))
              clear h3
              go_wp2_with fail
              refine (rcon_c C B d n i t _ HC.out hC2 h8 hlt ht H2.out).mono ?_
              rintro e w' ⟨rfl, rfl⟩
              go_wp2
              go_roundw
              case rel => exact ⟨i + 1, f, hlt, rfl, by omega, by omega, by go_num, bX, Lib.hid (by rw [HNR.out]; exact HF.out.trans HS3.out)⟩
              case measure => simp [intOf]; omega
      · have z1 : (p.ri != (r : Int)) = true := by simpa using h1
        have HS2 := Lib.hid (HS.out.trans (if_pos (.inl h1)))
        clear h1
        go_wp2
        go_roundw
        case rel => exact ⟨i + 1, f, hlt, rfl, hf0, hf1, by go_num, bX, Lib.hid (by rw [HNR.out]; exact HF.out.trans HS2.out)⟩
        case measure => simp [intOf]; omega
    · have hltZ : ¬ (i : Int) < n := by omega
      have he : i = n := by omega
      subst he
      have HS2 := Lib.hid (show candF P C (at_ nx r) r t i (i - i) f = f by rw [Nat.sub_self, candF])
      go_wp2
      go_ret
      exact ⟨ret_i (by rw [HV.out, HF.out, HS2.out]), bW.trans (hbr.mono bW.size)⟩
end Go.Proofs.Ytkpbkahmbbkcdaa
