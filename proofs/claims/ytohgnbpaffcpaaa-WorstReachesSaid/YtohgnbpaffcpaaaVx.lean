/-
  The reference's Valid of a control whose lights are any. Conditions: a valid junction.
-/
import Derived.Test.YtohgnbpaffcpaaaVl
namespace Go.Proofs.Ytohgnbpaffcpaaa
open Go.ChangeShapes Go.WideShapes Go.RowKit
set_option linter.unusedVariables false

structure MinCl (C : List Int) (n : Nat) (x : Int) (P Q : Nat) : Prop where
  p : P < n
  q : Q < n
  b1 : hasB x P = true
  b2 : hasB x Q = true
  b3 : hasB (at_ C P) Q = true
  first : ∀ p q, q < n → p < P ∨ p = P ∧ q < Q → hasB x p = true → hasB x q = true → hasB (at_ C p) q = true → False
theorem MinCl.eq {C : List Int} {n : Nat} {x : Int} {P Q p q : Nat} (h : MinCl C n x P Q) (hq : q < n) (hp : p ≤ P) (hpq : p < P ∨ q ≤ Q) (h1 : hasB x p = true) (h2 : hasB x q = true) (h3 : hasB (at_ C p) q = true) : p = P ∧ q = Q := by
  by_cases e : p < P ∨ p = P ∧ q < Q
  · exact absurd (h.first p q hq e h1 h2 h3) (fun h => h)
  · omega
theorem next_q {P Q p q : Nat} (hp : p ≤ P) (hpq : p < P ∨ q ≤ Q) (h : p = P → q = Q → False) : p < P ∨ q + 1 ≤ Q := by
  by_cases e : p < P
  · exact .inl e
  · by_cases e2 : q = Q
    · exact absurd (h (by omega) e2) (fun h => h)
    · omega
theorem least_nat {R : Nat → Prop} (h : ∃ p, R p) : ∃ p, R p ∧ ∀ q, q < p → ¬ R q := by
  obtain ⟨p, hp⟩ := h
  induction p using Nat.strongRecOn with
  | _ p ih =>
    by_cases e : ∃ q, q < p ∧ R q
    · obtain ⟨q, hq, hr⟩ := e
      exact ih q hq hr
    · exact ⟨p, hp, fun q hq hr => e ⟨q, hq, hr⟩⟩
theorem min_cl {C : List Int} {n : Nat} {x : Int} (h : ∃ p, p < n ∧ ∃ q, q < n ∧ hasB x p = true ∧ hasB x q = true ∧ hasB (at_ C p) q = true) : ∃ P Q, MinCl C n x P Q := by
  obtain ⟨P, hp, hpm⟩ := least_nat h
  obtain ⟨Q, hq, hqm⟩ := least_nat hp.2
  refine ⟨P, Q, hp.1, hq.1, hq.2.1, hq.2.2.1, hq.2.2.2, fun p q hqn hc h1 h2 h3 => ?_⟩
  rcases hc with hc | ⟨rfl, hc⟩
  · exact hpm p hc ⟨by have := hp.1; omega, q, hqn, h1, h2, h3⟩
  · exact hqm q hc ⟨hqn, h1, h2, h3⟩
set_option maxHeartbeats 1000000 in
theorem rclash_y (A : Option Addr) (cA n : Nat) (C : List Int) (x : Int) (w : World) (hCn : C.length = n) (hC : Ints .i64 w w.heap.size A C) (h8 : n ≤ 60) (P Q : Nat) (hno : MinCl C n x P Q) :
    Calls Try.prog 28 #[.slice A n cA, .int .i64 x] w fun e w' => e = .returned (.tuple #[.int .i64 (P : Nat), .int .i64 (Q : Nat)]) ∧ w = w' := by
  have HC := Lib.hid hCn
  have HNO := Lib.hid hno
  clear hCn hno
  go_enter Try.func28, Try.ntmps28
  go_wp2
  go_loopw [10] (fun v wr => ∃ p : Nat, p ≤ n ∧ v = .int .i64 p ∧ w = wr ∧ p ≤ P) (fun v _ => n - (intOf v).toNat)
  case atStart => exact ⟨0, by omega, rfl, rfl, by omega⟩
  case round =>
    obtain ⟨p, hp, rfl, rfl, hpP⟩ := hrel
    by_cases hlp : p < n
    · have hlpZ : (p : Int) < n := by omega
      go_wp2
      go_loopw [15] (fun v wr => ∃ q : Nat, q ≤ n ∧ v = .int .i64 q ∧ w = wr ∧ (p < P ∨ q ≤ Q)) (fun v _ => n - (intOf v).toNat)
      case atStart => exact ⟨0, by omega, rfl, rfl, by omega⟩
      case round =>
        obtain ⟨q, hq, rfl, rfl, hqQ⟩ := hrel
        by_cases hlq : q < n
        · have hlqZ : (q : Int) < n := by omega
          obtain ⟨b1, h1⟩ : ∃ b1, hasB x p = b1 := ⟨_, rfl⟩
          have H1 := Lib.hid h1
          clear h1
          cases b1 with
          | false =>
            go_wp2_with fail
            refine (in_c H1.out (by omega) _).mono ?_
            rintro e w' ⟨rfl, rfl⟩
            go_wp2
            go_roundw
            case rel => exact ⟨q + 1, hlq, by go_num, by first | rfl | trivial, next_q hpP hqQ (fun e1 e2 => by subst e1; subst e2; have := HNO.out.b1; rw [H1.out] at this; cases this)⟩
            case measure => simp [intOf]; omega
          | true =>
            obtain ⟨b2, h2⟩ : ∃ b2, hasB x q = b2 := ⟨_, rfl⟩
            have H2 := Lib.hid h2
            clear h2
            cases b2 with
            | false =>
              go_wp2_with fail
              refine (in_c H1.out (by omega) _).mono ?_
              rintro e w' ⟨rfl, rfl⟩
              go_wp2_with fail
              refine (in_c H2.out (by omega) _).mono ?_
              rintro e w' ⟨rfl, rfl⟩
              go_wp2
              go_roundw
              case rel => exact ⟨q + 1, hlq, by go_num, by first | rfl | trivial, next_q hpP hqQ (fun e1 e2 => by subst e1; subst e2; have := HNO.out.b2; rw [H2.out] at this; cases this)⟩
              case measure => simp [intOf]; omega
            | true =>
              obtain ⟨b3, h3⟩ : ∃ b3, hasB (at_ C p) q = b3 := ⟨_, rfl⟩
              have H3 := Lib.hid h3
              clear h3
              cases b3 with
              | false =>
                go_wp2_with fail
                refine (in_c H1.out (by omega) _).mono ?_
                rintro e w' ⟨rfl, rfl⟩
                go_wp2_with fail
                refine (in_c H2.out (by omega) _).mono ?_
                rintro e w' ⟨rfl, rfl⟩
                go_wp2_with fail
                refine (rcon_c C A cA n p q _ HC.out hC h8 hlp hlq H3.out).mono ?_
                rintro e w' ⟨rfl, rfl⟩
                go_wp2
                go_roundw
                case rel => exact ⟨q + 1, hlq, by go_num, by first | rfl | trivial, next_q hpP hqQ (fun e1 e2 => by subst e1; subst e2; have := HNO.out.b3; rw [H3.out] at this; cases this)⟩
                case measure => simp [intOf]; omega
              | true =>
                obtain ⟨rfl, rfl⟩ : p = P ∧ q = Q := HNO.out.eq hlq hpP hqQ H1.out H2.out H3.out
                go_wp2_with fail
                refine (in_c H1.out (by omega) _).mono ?_
                rintro e w' ⟨rfl, rfl⟩
                go_wp2_with fail
                refine (in_c H2.out (by omega) _).mono ?_
                rintro e w' ⟨rfl, rfl⟩
                go_wp2_with fail
                refine (rcon_c C A cA n p q _ HC.out hC h8 hlp hlq H3.out).mono ?_
                rintro e w' ⟨rfl, rfl⟩
                go_wp2
                refine bodyPost_ret (results_tmp2 rfl _ _ _) rfl ?_
                first | exact ⟨rfl, rfl⟩ | exact rfl
        · have hlqZ : ¬ (q : Int) < n := by omega
          go_wp2
          go_roundw
          case rel => exact ⟨p + 1, hlp, by go_num, by first | rfl | trivial, by have := HNO.out.q; omega⟩
          case measure => simp [intOf]; omega
    · have hlpZ : ¬ (p : Int) < n := by omega
      exact absurd HNO.out.p (by omega)
theorem rclash_yb (A : Option Addr) (cA n : Nat) (C : List Int) (x : Int) (w : World) (hCn : C.length = n) (hC : Ints .i64 w w.heap.size A C) (h8 : n ≤ 60) (P Q : Nat) (hno : MinCl C n x P Q) :
    Calls Try.prog 28 #[.slice A n cA, .int .i64 x] w fun e w' => e = .returned (.tuple #[.int .i64 (P : Nat), .int .i64 (Q : Nat)]) ∧ Below w.heap.size w w' :=
  (rclash_y A cA n C x w hCn hC h8 P Q hno).mono fun e w' ⟨h1, h2⟩ => ⟨h1, by rw [h2]; exact Below.refl _ _⟩
theorem val_no {C : List Int} {n : Nat} {L : List (Int × Int)} {sv : Int} (hs : ((setV L n : Nat) : Int) = sv) (h : ∀ p q, p < n → q < n → hasB sv p = true → hasB sv q = true → hasB (at_ C p) q = false) (p q : Nat) (hp : p < n) (hq : q < n) (h1 : lmp L p ≠ 0) (h2 : lmp L q ≠ 0) : hasB (at_ C p) q = false := by
  refine h p q hp hq ?_ ?_
  · rw [← hs, set_bit]; simp [hp, h1]
  · rw [← hs, set_bit]; simp [hq, h2]
theorem liOk_val {p : Ph} {lm tk : Int} (h : valB p lm tk = true) : LiOk p lm tk := by unfold LiOk; simpa [valB] using h
theorem rlight_x (p : Ph) (lm tk : Int) (w : World) (hp : PhOk p) (hb : (-9223372036854775808 ≤ lm ∧ lm ≤ 9223372036854775807) ∧ (-9223372036854775808 ≤ tk ∧ tk ≤ 9223372036854775807)) {v : Bool} (h : valB p lm tk = v) : Calls Try.prog 26 #[.agg #[.int .i64 p.ri, .int .i64 p.gr, .int .i64 p.mn, .int .i64 p.mx, .int .i64 p.yl, .int .i64 p.rd, .int .i64 p.wk, .int .i64 p.cl], .agg #[.int .i64 lm, .int .i64 tk]] w fun e w' => e = .returned (.bool v) ∧ Below w.heap.size w w' := by
  subst h; exact rvalid_any p lm tk w hp hb.1 hb.2
set_option maxRecDepth 20000 in
set_option maxHeartbeats 4000000 in
theorem rvalid_x (A Bc D E : Option Addr) (cP d cL cX n : Nat) (P : List Ph) (C : List Int) (c : Ct) (st : Int) (w : World) (hj : JunC P C n st) (hLn : c.li.length = n) (hXn : c.nx.length = 2) (hgr : 0 ≤ c.gr ∧ c.gr < groupsI P n) (hwt : 0 ≤ c.wt ∧ c.wt ≤ st) (hnxt : ∀ r : Nat, r < 2 → at_ c.nx r = -1 ∨ ∃ i : Nat, i < n ∧ at_ c.nx r = i ∧ (phAt P i).ri = r ∧ (phAt P i).gr = c.gr) (hbd : ∀ p, p < n → (-9223372036854775808 ≤ lmp c.li p ∧ lmp c.li p ≤ 9223372036854775807) ∧ (-9223372036854775808 ≤ tck c.li p ∧ tck c.li p ≤ 9223372036854775807)) (hP : Phs w w.heap.size A P) (hC : Ints .i64 w w.heap.size Bc C) (hL : Prs w w.heap.size D c.li) (hX : Ints .i64 w w.heap.size E c.nx) :
    Calls Try.prog 16 #[.agg #[.slice A n cP, .slice Bc n d, .int .i64 st], .agg #[.slice D n cL, .int .i64 c.gr, .slice E 2 cX, .int .i64 c.wt]] w fun e w' => ∃ r : Bool, e = .returned (.bool r) ∧ Below w.heap.size w w' ∧ (r = true → CtV P C n st c) := by
  have h1 := hj.h1
  have h8 := hj.h8
  have HN := Lib.hid hj.len
  have HL := Lib.hid hLn
  have HX := Lib.hid hXn
  have hg0 := hgr
  have HGR := Lib.hid hgr
  have HNXT := Lib.hid hnxt
  have HBD := Lib.hid hbd
  have hw0 := hwt
  have HWT := Lib.hid hwt
  clear hLn hXn hgr hnxt hbd hwt
  have hst0 := hj.st
  have bW := lat_alloc (lat_alloc (Below.refl w.heap.size w) (.cells #[.slice A n cP, .slice Bc n d, .int .i64 st] 25)) (.cells #[.slice D n cL, .int .i64 c.gr, .slice E 2 cX, .int .i64 c.wt] 31)
  have BJ := (Blk.new (w := w) (t := 25) (cs := #[.slice A n cP, .slice Bc n d, .int .i64 st])).alloc (.cells #[.slice D n cL, .int .i64 c.gr, .slice E 2 cX, .int .i64 c.wt] 31)
  have BC := Blk.new (w := w.alloc (.cells #[.slice A n cP, .slice Bc n d, .int .i64 st] 25)) (t := 31) (cs := #[.slice D n cL, .int .i64 c.gr, .slice E 2 cX, .int .i64 c.wt])
  rw [heap_size] at BC
  have hP1 := hP.grow bW
  have hC1 := hC.grow bW
  have hL1 := hL.grow bW
  have hX1 := hX.grow bW
  obtain ⟨sv, hsv⟩ : ∃ sv, ((setV c.li n : Nat) : Int) = sv := ⟨_, rfl⟩
  have HSV := Lib.hid hsv
  clear hsv
  obtain ⟨G, hG⟩ : ∃ G, groupsI P n = G := ⟨_, rfl⟩
  have HG := Lib.hid hG
  rw [hG] at hg0
  have z1 : ((n : Int) != (n : Int)) = false := by simp
  have z2 : decide (c.gr < 0) = false := decide_eq_false (by omega)
  have z3 : decide (G ≤ c.gr) = false := decide_eq_false (by omega)
  have z4 : decide (c.wt < 0) = false := decide_eq_false (by omega)
  have z5 : decide (st < c.wt) = false := decide_eq_false (by omega)
  clear hG
  go_enter Try.func16, Try.ntmps16
  go_wp2_with fail
  generalize (w.alloc (.cells #[.slice A n cP, .slice Bc n d, .int .i64 st] 25)).alloc (.cells #[.slice D n cL, .int .i64 c.gr, .slice E 2 cX, .int .i64 c.wt] 31) = W at *
  have a0 := BJ.laterN 0 rfl
  have a1 := BJ.laterN 1 rfl
  have a2 := BJ.laterN 2 rfl
  have b0 := BC.laterN 0 rfl
  have b1 := BC.laterN 1 rfl
  have b2 := BC.laterN 2 rfl
  have b3 := BC.laterN 3 rfl
  refine wp_region_grow (by kernel_rfl) (by kernel_rfl) ?_
  repeat' (first
      | go_big_quiet_skip
      | (go_big_quiet_want; first
          | (go_big_quiet_op; go_big_quiet_on)
          | (refine quiet_det ?_; apply Exists.intro; refine ⟨fun w' hC => ?_, ?_⟩; (go_simp <;> (first | rfl | exact ⟨rfl, rfl⟩)); apply Exists.intro; refine ⟨?_, ?_⟩; (go_simp <;> (first | rfl | exact ⟨rfl, rfl⟩)); go_big_quiet_on)
          | (show Oper.quiet _ { dst := _, op := .call { callee := .value _, args := _, argTypes := _ }, type := _, pos := _, after := _, guard := _ } _ _ _; refine quiet_call ?_; apply Exists.intro; apply Exists.intro; refine ⟨fun w' hC => ?_, ?_⟩; (go_simp <;> (first | rfl | exact ⟨rfl, rfl⟩)); apply Exists.intro; refine ⟨fun w' hC => ?_, ?_⟩; (first
              | with_reducible exact grow_call (rgroups_g (A := A) (B := Bc) (c := cP) (d := d) (m := n) HG.out w' HN.out (hP1.grow hC) (by omega) hj.gr) hC
              | fail); apply Exists.intro; refine ⟨?_, ?_⟩; (go_simp <;> (first | rfl | exact ⟨rfl, rfl⟩)); go_big_quiet_on)))
  all_goals refine wpQuiet_nil ?_
  intro w3 hb3
  clear a0 a1 a2 b0 b1 b2 b3 z1 z2 z3 z4 z5
  have BC3 := BC.below hb3
  have b0 := BC3.at 0 rfl
  go_wp2_with fail
  clear b0 BC3
  go_loopw [54] (fun v wr => ∃ i : Nat, i ≤ n ∧ v = .int .i64 i ∧ Below W.heap.size W wr ∧ ∀ p, p < i → LiOk (phAt P p) (lmp c.li p) (tck c.li p)) (fun v _ => n - (intOf v).toNat)
  case atStart => exact ⟨0, by omega, rfl, hb3, fun p h => absurd h (by omega)⟩
  case round =>
    obtain ⟨i, hi, rfl, hbr, hoks⟩ := hrel
    have HOKS := Lib.hid hoks
    clear hoks
    by_cases hlt : i < n
    · have hltZ : (i : Int) < n := by omega
      obtain ⟨b, off, rfl, hbB, hXr⟩ := (hP1.grow hbr).at (i := i) (by have := HN.out; omega)
      obtain ⟨bD, oD, rfl, hbD, l0, l1⟩ := (hL1.grow hbr).at (i := i) (by have := HL.out; omega)
      have hpx := hj.pok i hlt
      have hlx := HBD.out i hlt
      obtain ⟨x, hx⟩ : ∃ x, phAt P i = x := ⟨_, rfl⟩
      obtain ⟨lm, hlm⟩ : ∃ lm, lmp c.li i = lm := ⟨_, rfl⟩
      obtain ⟨tk, htk⟩ : ∃ tk, tck c.li i = tk := ⟨_, rfl⟩
      have hl0 : (prAt c.li i).1 = lm := hlm
      have hl1 : (prAt c.li i).2 = tk := htk
      rw [hx] at hXr hpx
      rw [hlm, htk] at hlx
      rw [hl0] at l0
      rw [hl1] at l1
      have HPX := Lib.hid hpx
      have HLX := Lib.hid hlx
      have HXE := Lib.hid hx
      have HLE := Lib.hid hlm
      have HTE := Lib.hid htk
      obtain ⟨vb, hvb⟩ : ∃ vb, valB x lm tk = vb := ⟨_, rfl⟩
      have HVB := Lib.hid hvb
      clear hvb
      clear hx hlm htk hl0 hl1 hlx hpx
      have X6 := Blk.new (w := wr) (t := 42) (cs := #[.int .i64 lm, .int .i64 tk])
      have hbx := lat_alloc (Below.refl wr.heap.size wr) (.cells #[.int .i64 lm, .int .i64 tk] 42)
      have Jr := (BJ.below hbr).below hbx
      have hXb := hXr.block (hbx.block b hbB)
      have hbb : b < (wr.alloc (.cells #[.int .i64 lm, .int .i64 tk] 42)).heap.size := Nat.lt_of_lt_of_le hbB hbx.size
      have bX := hbr.trans (hbx.mono hbr.size)
      go_wp2_with fail
      clear l0 l1 hXr hbx
      generalize wr.alloc (.cells #[.int .i64 lm, .int .i64 tk] 42) = W9 at *
      generalize hg6 : wr.heap.size = g6 at X6 ⊢
      clear hg6
      obtain ⟨q0, q1, q2, q3, q4, q5, q6, q7⟩ := ph_later hXb hbb
      have a0 := X6.laterN 0 rfl
      have a1 := X6.laterN 1 rfl
      have e0 := Jr.laterN 0 rfl
      refine wp_region_grow (by kernel_rfl) (by kernel_rfl) ?_
      repeat' (first
          | go_big_quiet_skip
          | (go_big_quiet_want; first
              | (go_big_quiet_op; go_big_quiet_on)
              | (refine quiet_det ?_; apply Exists.intro; refine ⟨fun w' hC => ?_, ?_⟩; (go_simp <;> (first | rfl | exact ⟨rfl, rfl⟩)); apply Exists.intro; refine ⟨?_, ?_⟩; (go_simp <;> (first | rfl | exact ⟨rfl, rfl⟩)); go_big_quiet_on)
              | (show Oper.quiet _ { dst := _, op := .call { callee := .value _, args := _, argTypes := _ }, type := _, pos := _, after := _, guard := _ } _ _ _; refine quiet_call ?_; apply Exists.intro; apply Exists.intro; refine ⟨fun w' hC => ?_, ?_⟩; (go_simp <;> (first | rfl | exact ⟨rfl, rfl⟩)); apply Exists.intro; refine ⟨fun w' hC => ?_, ?_⟩; (first
                  | with_reducible exact grow_call (rlight_x x lm tk w' HPX.out HLX.out HVB.out) hC
                  | fail); apply Exists.intro; refine ⟨?_, ?_⟩; (go_simp <;> (first | rfl | exact ⟨rfl, rfl⟩)); go_big_quiet_on)))
      all_goals refine wpQuiet_nil ?_
      intro w10 hb10
      clear q0 q1 q2 q3 q4 q5 q6 q7 a0 a1 e0
      cases vb with
      | true =>
        go_wp2
        go_roundw
        case rel => exact ⟨i + 1, hlt, by go_num, bX.trans (hb10.mono bX.size), fun p hp => by
          by_cases e : p = i
          · subst e; rw [HXE.out, HLE.out, HTE.out]; exact liOk_val HVB.out
          · exact HOKS.out p (by omega)⟩
        case measure => simp [intOf]; omega
      | false =>
        go_wp2
        go_ret
        exact ⟨false, rfl, bW.trans ((bX.trans (hb10.mono bX.size)).mono bW.size), fun h => absurd h (by decide)⟩
    · have hltZ : ¬ (i : Int) < n := by omega
      have HOKN := Lib.hid (show ∀ p, p < n → LiOk (phAt P p) (lmp c.li p) (tck c.li p) from fun p hp => HOKS.out p (by omega))
      have BCr := BC.below hbr
      have b2 := BCr.at 2 rfl
      go_wp2_with fail
      clear b2 BCr
      go_loopw [71] (fun v wr => ∃ r : Nat, r ≤ 2 ∧ v = .int .i64 r ∧ Below W.heap.size W wr) (fun v _ => 2 - (intOf v).toNat)
      case atStart => exact ⟨0, by omega, rfl, hbr⟩
      case round =>
        obtain ⟨r, hr, rfl, hbs⟩ := hrel
        by_cases hlr : r < 2
        · have hlrZ : (r : Int) < 2 := by omega
          obtain ⟨bE, oE, rfl, hbE, hcE⟩ := (hX1.grow hbs) (by have := HX.out; omega)
          have n0 := hcE r (by have := HX.out; omega)
          have hnx := HNXT.out r hlr
          clear hcE
          obtain ⟨nv, hnv⟩ : ∃ nv, at_ c.nx r = nv := ⟨_, rfl⟩
          rw [hnv] at n0 hnx
          clear hnv
          obtain ⟨f0, hf0⟩ : ∃ f0 : Bool, (nv == -1) = f0 := ⟨_, rfl⟩
          have HF0 := Lib.hid (show f0 = true ↔ nv = -1 by rw [← hf0, beq_iff_eq])
          have BJs := BJ.below hbs
          have BCs := BC.below hbs
          have a0 := BJs.at 0 rfl
          have a1 := BJs.at 1 rfl
          have a2 := BJs.at 2 rfl
          have b1 := BCs.at 1 rfl
          go_wp2_with fail
          (try rw [hf0])
          refine (rof_n A Bc cP d n n P st r c.gr _ HN.out (hP1.grow hbs) (by omega)).mono ?_
          rintro e W5 ⟨A', c', rfl, hb5, hI5⟩
          clear a0 a1 a2 b1 n0 hf0 BJs BCs
          have hb5 := hbs.trans (hb5.mono hbs.size)
          have HMEM := Lib.hid (show nv = -1 ∨ ∃ j, j < (ofL P r c.gr n).length ∧ at_ (ofL P r c.gr n) j = nv by
            rcases hnx with h | ⟨i, h1, h2, h3, h4⟩
            · exact .inl h
            · exact .inr (by rw [h2]; exact mem_at (mem_ofL P r c.gr i n h1 h3 h4)))
          clear hnx
          have hole := of_le P r c.gr n
          obtain ⟨O, hO⟩ : ∃ O, ofL P r c.gr n = O := ⟨_, rfl⟩
          rw [hO] at HMEM hI5 hole ⊢
          clear hO
          obtain ⟨m, hm⟩ : ∃ m, O.length = m := ⟨_, rfl⟩
          have HM := Lib.hid hm
          rw [hm] at HMEM hole ⊢
          clear hm
          go_wp2_with fail
          go_loopw [9, 84] (fun s9 v wr => ∃ (k : Nat) (f : Bool), k ≤ m ∧ s9 = .bool f ∧ v = .int .i64 k ∧ wr = W5 ∧ (f = true ↔ nv = -1 ∨ ∃ j, j < k ∧ at_ O j = nv)) (fun _ v _ => m - (intOf v).toNat)
          case atStart => exact ⟨0, f0, by omega, rfl, rfl, by first | rfl | trivial, by rw [HF0.out]; exact ⟨fun h => .inl h, fun h => h.elim id (fun ⟨j, hj, _⟩ => absurd hj (by omega))⟩⟩
          case round =>
            obtain ⟨k, f, hk, rfl, rfl, rfl, hf⟩ := hrel
            have HF := Lib.hid hf
            clear hf
            by_cases hlk : k < m
            · have hlkZ : (k : Int) < m := by omega
              obtain ⟨bO, oO, rfl, hbO, hcO⟩ := hI5 (by have := HM.out; omega)
              have n1 := hcO k (by have := HM.out; omega)
              clear hcO
              obtain ⟨ov, hov⟩ : ∃ ov, at_ O k = ov := ⟨_, rfl⟩
              rw [hov] at n1
              have HOV := Lib.hid hov
              clear hov
              cases f with
              | true =>
                go_wp2
                go_roundw
                case rel => exact ⟨k + 1, true, hlk, rfl, by go_num, by first | rfl | trivial, by
                  simp only [true_iff]
                  rcases HF.out.1 (by trivial) with h | ⟨j, hj, e⟩
                  · exact .inl h
                  · exact .inr ⟨j, by omega, e⟩⟩
                case measure => simp [intOf]; omega
              | false =>
                by_cases he : ov = nv
                · have ze : (ov == nv) = true := by simpa using he
                  have HE := Lib.hid he
                  clear he
                  go_wp2
                  go_roundw
                  case rel => exact ⟨k + 1, true, hlk, rfl, by go_num, by first | rfl | trivial, by
                    simp only [true_iff]
                    exact .inr ⟨k, by omega, HOV.out.trans HE.out⟩⟩
                  case measure => simp [intOf]; omega
                · have ze : (ov == nv) = false := by simpa using he
                  have HE := Lib.hid he
                  clear he
                  go_wp2
                  go_roundw
                  case rel => exact ⟨k + 1, false, hlk, rfl, by go_num, by first | rfl | trivial, by
                    simp only [Bool.false_eq_true, false_iff]
                    rintro (h | ⟨j, hj, e⟩)
                    · have := HF.out.2 (.inl h); cases this
                    · by_cases ej : j = k
                      · subst ej; exact HE.out (HOV.out.symm.trans e)
                      · have := HF.out.2 (.inr ⟨j, by omega, e⟩); cases this⟩
                  case measure => simp [intOf]; omega
            · have hlkZ : ¬ (k : Int) < m := by omega
              obtain rfl : m = k := by omega
              have hft : f = true := HF.out.2 HMEM.out
              subst hft
              go_wp2
              go_roundw
              case rel => exact ⟨r + 1, hlr, by go_num, hb5⟩
              case measure => simp [intOf]; omega
        · have hlrZ : ¬ (r : Int) < 2 := by omega
          have BJs := BJ.below hbs
          have BCs := BC.below hbs
          have hP5 := hP1.grow hbs
          have hL5 := hL1.grow hbs
          have hC5 := hC1.grow hbs
          have HRC := Lib.hid hj.rows.len
          clear hL1 hC1 hP1 hL hC hP hX hX1
          by_cases hcl : ∃ p, p < n ∧ ∃ q, q < n ∧ hasB sv p = true ∧ hasB sv q = true ∧ hasB (at_ C p) q = true
          · obtain ⟨cp, cq, hmin⟩ := min_cl hcl
            have HMIN := Lib.hid hmin
            clear hmin hcl
            have zc : decide ((cp : Int) < 0) = false := by simp
            go_wp2_with fail
            have a0 := BJs.laterN 0 rfl
            have a1 := BJs.laterN 1 rfl
            have a2 := BJs.laterN 2 rfl
            have b0 := BCs.laterN 0 rfl
            have b1 := BCs.laterN 1 rfl
            have b2 := BCs.laterN 2 rfl
            have b3 := BCs.laterN 3 rfl
            refine wp_region_grow (by kernel_rfl) (by kernel_rfl) ?_
            repeat' (first
                | go_big_quiet_skip
                | (go_big_quiet_want; first
                    | (go_big_quiet_op; go_big_quiet_on)
                    | (refine quiet_det ?_; apply Exists.intro; refine ⟨fun w' hC => ?_, ?_⟩; (go_simp <;> (first | rfl | exact ⟨rfl, rfl⟩)); apply Exists.intro; refine ⟨?_, ?_⟩; (go_simp <;> (first | rfl | exact ⟨rfl, rfl⟩)); go_big_quiet_on)
                    | (show Oper.quiet _ { dst := _, op := .call { callee := .value _, args := _, argTypes := _ }, type := _, pos := _, after := _, guard := _ } _ _ _; refine quiet_call ?_; apply Exists.intro; apply Exists.intro; refine ⟨fun w' hC => ?_, ?_⟩; (go_simp <;> (first | rfl | exact ⟨rfl, rfl⟩)); apply Exists.intro; refine ⟨fun w' hC => ?_, ?_⟩; (first
                        | with_reducible exact grow_call (rset_c (D := D) (E := E) (cL := cL) (cX := cX) (g := c.gr) (wt := c.wt) w' HL.out (hL5.grow hC) (by omega) HSV.out) hC
                        | with_reducible exact grow_call (rclash_yb Bc d n C sv w' HRC.out (hC5.grow hC) (by omega) cp cq HMIN.out) hC
                        | fail); apply Exists.intro; refine ⟨?_, ?_⟩; (go_simp <;> (first | rfl | exact ⟨rfl, rfl⟩)); go_big_quiet_on)))
            all_goals refine wpQuiet_nil ?_
            intro w7 hb7
            clear a0 a1 a2 b0 b1 b2 b3
            have b7 := hbs.trans (hb7.mono hbs.size)
            go_wp2
            go_ret
            exact ⟨false, rfl, bW.trans (b7.mono bW.size), fun h => absurd h (by decide)⟩
          have HNO := Lib.hid (show ∀ p q, p < n → q < n → hasB sv p = true → hasB sv q = true → hasB (at_ C p) q = false from fun p q hp hq h1 h2 => by
            cases h3 : hasB (at_ C p) q with
            | false => rfl
            | true => exact absurd ⟨p, hp, q, hq, h1, h2, h3⟩ hcl)
          clear hcl
          go_wp2_with fail
          have a0 := BJs.laterN 0 rfl
          have a1 := BJs.laterN 1 rfl
          have a2 := BJs.laterN 2 rfl
          have b0 := BCs.laterN 0 rfl
          have b1 := BCs.laterN 1 rfl
          have b2 := BCs.laterN 2 rfl
          have b3 := BCs.laterN 3 rfl
          refine wp_region_grow (by kernel_rfl) (by kernel_rfl) ?_
          repeat' (first
              | go_big_quiet_skip
              | (go_big_quiet_want; first
                  | (go_big_quiet_op; go_big_quiet_on)
                  | (refine quiet_det ?_; apply Exists.intro; refine ⟨fun w' hC => ?_, ?_⟩; (go_simp <;> (first | rfl | exact ⟨rfl, rfl⟩)); apply Exists.intro; refine ⟨?_, ?_⟩; (go_simp <;> (first | rfl | exact ⟨rfl, rfl⟩)); go_big_quiet_on)
                  | (show Oper.quiet _ { dst := _, op := .call { callee := .value _, args := _, argTypes := _ }, type := _, pos := _, after := _, guard := _ } _ _ _; refine quiet_call ?_; apply Exists.intro; apply Exists.intro; refine ⟨fun w' hC => ?_, ?_⟩; (go_simp <;> (first | rfl | exact ⟨rfl, rfl⟩)); apply Exists.intro; refine ⟨fun w' hC => ?_, ?_⟩; (first
                      | with_reducible exact grow_call (rset_c (D := D) (E := E) (cL := cL) (cX := cX) (g := c.gr) (wt := c.wt) w' HL.out (hL5.grow hC) (by omega) HSV.out) hC
                      | with_reducible exact grow_call (rclash_c (A := Bc) (cA := d) w' HRC.out (hC5.grow hC) (by omega) HNO.out) hC
                      | fail); apply Exists.intro; refine ⟨?_, ?_⟩; (go_simp <;> (first | rfl | exact ⟨rfl, rfl⟩)); go_big_quiet_on)))
          all_goals refine wpQuiet_nil ?_
          intro w7 hb7
          clear a0 a1 a2 b0 b1 b2 b3
          have BC7 := BCs.below hb7
          have b7 := hbs.trans (hb7.mono hbs.size)
          by_cases hz : c.wt = 0
          · have zz : (c.wt == 0) = true := by simpa using hz
            have HZ := Lib.hid hz
            clear hz
            have b3 := BC7.at 3 rfl
            go_wp2
            go_ret
            exact ⟨true, rfl, bW.trans (b7.mono bW.size), fun _ => ⟨HL.out, HX.out, HGR.out, HWT.out, HOKN.out, HNXT.out, val_no HSV.out HNO.out, .inl HZ.out⟩⟩
          · have zz : (c.wt == 0) = false := by simpa using hz
            clear hz
            have b0 := BC7.at 0 rfl
            have b1 := BC7.at 1 rfl
            have b2 := BC7.at 2 rfl
            have b3 := BC7.at 3 rfl
            go_wp2_with fail
            refine (rset_c (D := D) (E := E) (cL := cL) (cX := cX) (g := c.gr) (wt := c.wt) w7 HL.out (hL5.grow hb7) (by omega) HSV.out).mono ?_
            rintro e w8 ⟨rfl, hb8⟩
            clear b0 b1 b2 b3
            obtain ⟨f0, hf0⟩ : ∃ f0 : Bool, (sv == 0) = f0 := ⟨_, rfl⟩
            have HF0 := Lib.hid hf0
            go_wp2
            go_ret
            refine ⟨f0, rfl, bW.trans ((b7.trans (hb8.mono b7.size)).mono bW.size), fun h => ⟨HL.out, HX.out, HGR.out, HWT.out, HOKN.out, HNXT.out, val_no HSV.out HNO.out, .inr ((setV_zero c.li n).1 ?_)⟩⟩
            have h2 : sv = 0 := by rw [← HF0.out] at h; simpa using h
            have := HSV.out
            omega
end Go.Proofs.Ytohgnbpaffcpaaa
