/-
  A control that is valid, the reference says so. Conditions: a drawn junction.
-/
import Derived.Test.YtkpbkahmbbkcdaaCn
namespace Go.Proofs.Ytkpbkahmbbkcdaa
open Go.ChangeShapes Go.WideShapes Go.RowKit
set_option linter.unusedVariables false

theorem in_any (x : Int) (k : Nat) (hk : k < 64) (w : World) : Calls Try.prog 58 #[.int .i64 x, .int .i64 k] w fun e w' => e = .returned (.bool (hasB x k)) ∧ w = w' := by
  go_enter Try.func58, Try.ntmps58
  go_wp2
  go_ret
  exact ⟨by simp [hasB, and_1], rfl⟩
theorem in_c {x : Int} {k : Nat} {b : Bool} (h : hasB x k = b) (hk : k < 64) (w : World) : Calls Try.prog 58 #[.int .i64 x, .int .i64 k] w fun e w' => e = .returned (.bool b) ∧ w = w' := by
  subst h; exact in_any x k hk w
set_option maxHeartbeats 1000000 in
theorem rclash_no (A : Option Addr) (cA n : Nat) (C : List Int) (x : Int) (w : World) (hCn : C.length = n) (hC : Ints .i64 w w.heap.size A C) (h8 : n ≤ 60) (hno : ∀ p q, p < n → q < n → hasB x p = true → hasB x q = true → hasB (at_ C p) q = false) :
    Calls Try.prog 27 #[.slice A n cA, .int .i64 x] w fun e w' => e = .returned (.tuple #[.int .i64 (-1), .int .i64 (-1)]) ∧ w = w' := by
  have HC := Lib.hid hCn
  have HNO := Lib.hid hno
  clear hCn hno
  go_enter Try.func27, Try.ntmps27
  go_wp2
  go_loopw [10] (fun v wr => ∃ p : Nat, p ≤ n ∧ v = .int .i64 p ∧ w = wr) (fun v _ => n - (intOf v).toNat)
  case atStart => exact ⟨0, by omega, rfl, rfl⟩
  case round =>
    obtain ⟨p, hp, rfl, rfl⟩ := hrel
    by_cases hlp : p < n
    · have hlpZ : (p : Int) < n := by omega
      go_wp2
      go_loopw [15] (fun v wr => ∃ q : Nat, q ≤ n ∧ v = .int .i64 q ∧ w = wr) (fun v _ => n - (intOf v).toNat)
      case atStart => exact ⟨0, by omega, rfl, rfl⟩
      case round =>
        obtain ⟨q, hq, rfl, rfl⟩ := hrel
        by_cases hlq : q < n
        · have hlqZ : (q : Int) < n := by omega
          obtain ⟨b1, h1⟩ : ∃ b1, hasB x p = b1 := ⟨_, rfl⟩
          have H1 := Lib.hid h1
          clear h1
          cases b1 with
          | false =>
            go_wp2_with fail
            refine (in_c H1.out (by omega) _).mono ?_
            rintro e w' ⟨rfl, rfl⟩
            go_wp2
            go_roundw
            case rel => exact ⟨q + 1, hlq, by go_num, by first | rfl | trivial⟩
            case measure => simp [intOf]; omega
          | true =>
            obtain ⟨b2, h2⟩ : ∃ b2, hasB x q = b2 := ⟨_, rfl⟩
            have H2 := Lib.hid h2
            clear h2
            cases b2 with
            | false =>
              go_wp2_with fail
              refine (in_c H1.out (by omega) _).mono ?_
              rintro e w' ⟨rfl, rfl⟩
              go_wp2_with fail
              refine (in_c H2.out (by omega) _).mono ?_
              rintro e w' ⟨rfl, rfl⟩
              go_wp2
              go_roundw
              case rel => exact ⟨q + 1, hlq, by go_num, by first | rfl | trivial⟩
              case measure => simp [intOf]; omega
            | true =>
              have H3 := Lib.hid (HNO.out p q hlp hlq H1.out H2.out)
              go_wp2_with fail
              refine (in_c H1.out (by omega) _).mono ?_
              rintro e w' ⟨rfl, rfl⟩
              go_wp2_with fail
              refine (in_c H2.out (by omega) _).mono ?_
              rintro e w' ⟨rfl, rfl⟩
              go_wp2_with fail
              refine (rcon_c C A cA n p q _ HC.out hC h8 hlp hlq H3.out).mono ?_
              rintro e w' ⟨rfl, rfl⟩
              go_wp2
              go_roundw
              case rel => exact ⟨q + 1, hlq, by go_num, by first | rfl | trivial⟩
              case measure => simp [intOf]; omega
        · have hlqZ : ¬ (q : Int) < n := by omega
          go_wp2
          go_roundw
          case rel => exact ⟨p + 1, hlp, by go_num, by first | rfl | trivial⟩
          case measure => simp [intOf]; omega
    · have hlpZ : ¬ (p : Int) < n := by omega
      go_wp2
      refine bodyPost_ret (results_tmp2 rfl _ _ _) rfl ?_
      exact ⟨rfl, by first | rfl | trivial⟩
theorem set_bit (L : List (Int × Int)) (n p : Nat) : hasB ((setV L n : Nat) : Int) p = (decide (p < n) && decide (lmp L p ≠ 0)) := by rw [hasB_nat, setV_bit]
theorem rgroups_g {A B : Option Addr} {c d n m : Nat} {P : List Ph} {st G : Int} (h : groupsI P n = G) (w : World) (hn : P.length = n) (hP : Phs w w.heap.size A P) (hl : n ≤ 60) (hg : ∀ i, i < n → 0 ≤ (phAt P i).gr ∧ (phAt P i).gr ≤ 3) :
    Calls Try.prog 40 #[.agg #[.slice A n c, .slice B m d, .int .i64 st]] w fun e w' => e = .returned (.int .i64 G) ∧ Below w.heap.size w w' := by
  subst h; exact rgroups_n A B c d n m P st w hn hP hl hg
theorem ph_later {W : World} {b o : Nat} {p : Ph} (h : PhHere W b o p) (hb : b < W.heap.size) :
    (∀ w', Below W.heap.size W w' → w'.cell? ⟨b, o, none⟩ = some (.int .i64 p.ri)) ∧ (∀ w', Below W.heap.size W w' → w'.cell? ⟨b, o + 1, none⟩ = some (.int .i64 p.gr)) ∧ (∀ w', Below W.heap.size W w' → w'.cell? ⟨b, o + 2, none⟩ = some (.int .i64 p.mn)) ∧ (∀ w', Below W.heap.size W w' → w'.cell? ⟨b, o + 3, none⟩ = some (.int .i64 p.mx)) ∧
    (∀ w', Below W.heap.size W w' → w'.cell? ⟨b, o + 4, none⟩ = some (.int .i64 p.yl)) ∧ (∀ w', Below W.heap.size W w' → w'.cell? ⟨b, o + 5, none⟩ = some (.int .i64 p.rd)) ∧ (∀ w', Below W.heap.size W w' → w'.cell? ⟨b, o + 6, none⟩ = some (.int .i64 p.wk)) ∧ (∀ w', Below W.heap.size W w' → w'.cell? ⟨b, o + 7, none⟩ = some (.int .i64 p.cl)) := by
  have hx := fun w' (hb' : Below W.heap.size W w') => h.block (w' := w') (hb'.block b hb)
  exact ⟨fun w' hb' => (hx w' hb').1, fun w' hb' => (hx w' hb').2.1, fun w' hb' => (hx w' hb').2.2.1, fun w' hb' => (hx w' hb').2.2.2.1, fun w' hb' => (hx w' hb').2.2.2.2.1, fun w' hb' => (hx w' hb').2.2.2.2.2.1, fun w' hb' => (hx w' hb').2.2.2.2.2.2.1, fun w' hb' => (hx w' hb').2.2.2.2.2.2.2⟩
theorem mem_ofL (P : List Ph) (r g : Int) (i : Nat) : ∀ k, i < k → (phAt P i).ri = r → (phAt P i).gr = g → (i : Int) ∈ ofL P r g k
  | 0, h, _, _ => absurd h (by omega)
  | k + 1, h, h1, h2 => by
    rw [ofL]
    by_cases e : i = k
    · subst e; rw [if_pos ⟨h1, h2⟩]; simp
    · have := mem_ofL P r g i k (by omega) h1 h2
      split
      · exact List.mem_append_left _ this
      · exact this
theorem mem_at {O : List Int} {x : Int} (h : x ∈ O) : ∃ j, j < O.length ∧ at_ O j = x := by
  obtain ⟨j, hj, e⟩ := List.mem_iff_getElem.1 h
  exact ⟨j, hj, by unfold at_; simp [hj, e]⟩
theorem rlight_c (p : Ph) (lm tk : Int) (w : World) (hp : PhOk p) (h : LiOk p lm tk) : Calls Try.prog 41 #[.agg #[.int .i64 p.ri, .int .i64 p.gr, .int .i64 p.mn, .int .i64 p.mx, .int .i64 p.yl, .int .i64 p.rd, .int .i64 p.wk, .int .i64 p.cl], .agg #[.int .i64 lm, .int .i64 tk]] w fun e w' => e = .returned (.bool true) ∧ Below w.heap.size w w' := by
  have hb := LiOk.bd hp h
  have := rvalid_any p lm tk w hp (by omega) (by omega)
  rw [valB_ok h] at this
  exact this
theorem rset_c {D E : Option Addr} {cL cX n : Nat} {L : List (Int × Int)} {g wt : Int} (w : World) (hLn : L.length = n) (hL : Prs w w.heap.size D L) (h8 : n ≤ 60) {s : Int} (hs : ((setV L n : Nat) : Int) = s) :
    Calls Try.prog 20 #[.agg #[.slice D n cL, .int .i64 g, .slice E 2 cX, .int .i64 wt]] w fun e w' => e = .returned (.int .i64 s) ∧ Below w.heap.size w w' := by
  subst hs; exact set_any D E cL cX n L g wt w hLn hL h8
theorem rclash_c {A : Option Addr} {cA n : Nat} {C : List Int} {x : Int} (w : World) (hCn : C.length = n) (hC : Ints .i64 w w.heap.size A C) (h8 : n ≤ 60) (hno : ∀ p q, p < n → q < n → hasB x p = true → hasB x q = true → hasB (at_ C p) q = false) :
    Calls Try.prog 27 #[.slice A n cA, .int .i64 x] w fun e w' => e = .returned (.tuple #[.int .i64 (-1), .int .i64 (-1)]) ∧ Below w.heap.size w w' :=
  (rclash_no A cA n C x w hCn hC h8 hno).mono fun e w' ⟨h1, h2⟩ => ⟨h1, by rw [h2]; exact Below.refl _ _⟩
set_option maxRecDepth 20000 in
set_option maxHeartbeats 4000000 in
theorem vtrue_any (A Bc D E : Option Addr) (cP d cL cX n : Nat) (P : List Ph) (C : List Int) (c : Ct) (st : Int) (w : World) (hj : JunC P C n st) (hv : CtV P C n st c) (hP : Phs w w.heap.size A P) (hC : Ints .i64 w w.heap.size Bc C) (hL : Prs w w.heap.size D c.li) (hX : Ints .i64 w w.heap.size E c.nx) :
    Calls Try.prog 18 #[.agg #[.slice A n cP, .slice Bc n d, .int .i64 st], .agg #[.slice D n cL, .int .i64 c.gr, .slice E 2 cX, .int .i64 c.wt]] w fun e w' => e = .returned (.bool true) ∧ Below w.heap.size w w' := by
  have h1 := hj.h1
  have h8 := hj.h8
  have HN := Lib.hid hj.len
  have HL := Lib.hid hv.li
  have HX := Lib.hid hv.nx
  have hg0 := hv.gr
  have hw0 := hv.wt
  have hst0 := hj.st
  have bW := lat_alloc (lat_alloc (Below.refl w.heap.size w) (.cells #[.slice A n cP, .slice Bc n d, .int .i64 st] 30)) (.cells #[.slice D n cL, .int .i64 c.gr, .slice E 2 cX, .int .i64 c.wt] 25)
  have BJ := (Blk.new (w := w) (t := 30) (cs := #[.slice A n cP, .slice Bc n d, .int .i64 st])).alloc (.cells #[.slice D n cL, .int .i64 c.gr, .slice E 2 cX, .int .i64 c.wt] 25)
  have BC := Blk.new (w := w.alloc (.cells #[.slice A n cP, .slice Bc n d, .int .i64 st] 30)) (t := 25) (cs := #[.slice D n cL, .int .i64 c.gr, .slice E 2 cX, .int .i64 c.wt])
  rw [heap_size] at BC
  have hP1 := hP.grow bW
  have hC1 := hC.grow bW
  have hL1 := hL.grow bW
  have hX1 := hX.grow bW
  obtain ⟨sv, hsv⟩ : ∃ sv, ((setV c.li n : Nat) : Int) = sv := ⟨_, rfl⟩
  have HSV := Lib.hid hsv
  clear hsv
  obtain ⟨G, hG⟩ : ∃ G, groupsI P n = G := ⟨_, rfl⟩
  have HG := Lib.hid hG
  rw [hG] at hg0
  have z1 : ((n : Int) != (n : Int)) = false := by simp
  have z2 : decide (c.gr < 0) = false := decide_eq_false (by omega)
  have z3 : decide (G ≤ c.gr) = false := decide_eq_false (by omega)
  have z4 : decide (c.wt < 0) = false := decide_eq_false (by omega)
  have z5 : decide (st < c.wt) = false := decide_eq_false (by omega)
  clear hG
  go_enter Try.func18, Try.ntmps18
  go_wp2_with fail
  generalize (w.alloc (.cells #[.slice A n cP, .slice Bc n d, .int .i64 st] 30)).alloc (.cells #[.slice D n cL, .int .i64 c.gr, .slice E 2 cX, .int .i64 c.wt] 25) = W at *
  have a0 := BJ.laterN 0 rfl
  have a1 := BJ.laterN 1 rfl
  have a2 := BJ.laterN 2 rfl
  have b0 := BC.laterN 0 rfl
  have b1 := BC.laterN 1 rfl
  have b2 := BC.laterN 2 rfl
  have b3 := BC.laterN 3 rfl
  refine wp_region_grow (by kernel_rfl) (by kernel_rfl) ?_
  repeat' (first
      | go_big_quiet_skip
      | (go_big_quiet_want; first
          | (go_big_quiet_op; go_big_quiet_on)
          | (refine quiet_det ?_; apply Exists.intro; refine ⟨fun w' hC => ?_, ?_⟩; (go_simp <;> (first | rfl | exact ⟨rfl, rfl⟩)); apply Exists.intro; refine ⟨?_, ?_⟩; (go_simp <;> (first | rfl | exact ⟨rfl, rfl⟩)); go_big_quiet_on)
          | (show Oper.quiet _ { dst := _, op := .call { callee := .value _, args := _, argTypes := _ }, type := _, pos := _, after := _, guard := _ } _ _ _; refine quiet_call ?_; apply Exists.intro; apply Exists.intro; refine ⟨fun w' hC => ?_, ?_⟩; (go_simp <;> (first | rfl | exact ⟨rfl, rfl⟩)); apply Exists.intro; refine ⟨fun w' hC => ?_, ?_⟩; (first
              | with_reducible exact grow_call (rgroups_g (A := A) (B := Bc) (c := cP) (d := d) (m := n) HG.out w' HN.out (hP1.grow hC) (by omega) hj.gr) hC
              | fail); apply Exists.intro; refine ⟨?_, ?_⟩; (go_simp <;> (first | rfl | exact ⟨rfl, rfl⟩)); go_big_quiet_on)))
  all_goals refine wpQuiet_nil ?_
  intro w3 hb3
  clear a0 a1 a2 b0 b1 b2 b3 z1 z2 z3 z4 z5
  have BC3 := BC.below hb3
  have b0 := BC3.at 0 rfl
  go_wp2_with fail
  clear b0 BC3
  go_loopw [54] (fun v wr => ∃ i : Nat, i ≤ n ∧ v = .int .i64 i ∧ Below W.heap.size W wr) (fun v _ => n - (intOf v).toNat)
  case atStart => exact ⟨0, by omega, rfl, hb3⟩
  case round =>
    obtain ⟨i, hi, rfl, hbr⟩ := hrel
    by_cases hlt : i < n
    · have hltZ : (i : Int) < n := by omega
      obtain ⟨b, off, rfl, hbB, hXr⟩ := (hP1.grow hbr).at (i := i) (by have := HN.out; omega)
      obtain ⟨bD, oD, rfl, hbD, l0, l1⟩ := (hL1.grow hbr).at (i := i) (by have := HL.out; omega)
      have hpx := hj.pok i hlt
      have hlx := hv.ok i hlt
      obtain ⟨x, hx⟩ : ∃ x, phAt P i = x := ⟨_, rfl⟩
      obtain ⟨lm, hlm⟩ : ∃ lm, lmp c.li i = lm := ⟨_, rfl⟩
      obtain ⟨tk, htk⟩ : ∃ tk, tck c.li i = tk := ⟨_, rfl⟩
      have hl0 : (prAt c.li i).1 = lm := hlm
      have hl1 : (prAt c.li i).2 = tk := htk
      rw [hx] at hXr hlx hpx
      rw [hlm, htk] at hlx
      rw [hl0] at l0
      rw [hl1] at l1
      have HPX := Lib.hid hpx
      have HLX := Lib.hid hlx
      clear hx hlm htk hl0 hl1 hlx hpx
      have X6 := Blk.new (w := wr) (t := 45) (cs := #[.int .i64 lm, .int .i64 tk])
      have hbx := lat_alloc (Below.refl wr.heap.size wr) (.cells #[.int .i64 lm, .int .i64 tk] 45)
      have Jr := (BJ.below hbr).below hbx
      have hXb := hXr.block (hbx.block b hbB)
      have hbb : b < (wr.alloc (.cells #[.int .i64 lm, .int .i64 tk] 45)).heap.size := Nat.lt_of_lt_of_le hbB hbx.size
      have bX := hbr.trans (hbx.mono hbr.size)
      go_wp2_with fail
      clear l0 l1 hXr hbx
      generalize wr.alloc (.cells #[.int .i64 lm, .int .i64 tk] 45) = W9 at *
      generalize hg6 : wr.heap.size = g6 at X6 ⊢
      clear hg6
      obtain ⟨q0, q1, q2, q3, q4, q5, q6, q7⟩ := ph_later hXb hbb
      have a0 := X6.laterN 0 rfl
      have a1 := X6.laterN 1 rfl
      have e0 := Jr.laterN 0 rfl
      refine wp_region_grow (by kernel_rfl) (by kernel_rfl) ?_
      repeat' (first
          | go_big_quiet_skip
          | (go_big_quiet_want; first
              | (go_big_quiet_op; go_big_quiet_on)
              | (refine quiet_det ?_; apply Exists.intro; refine ⟨fun w' hC => ?_, ?_⟩; (go_simp <;> (first | rfl | exact ⟨rfl, rfl⟩)); apply Exists.intro; refine ⟨?_, ?_⟩; (go_simp <;> (first | rfl | exact ⟨rfl, rfl⟩)); go_big_quiet_on)
              | (show Oper.quiet _ { dst := _, op := .call { callee := .value _, args := _, argTypes := _ }, type := _, pos := _, after := _, guard := _ } _ _ _; refine quiet_call ?_; apply Exists.intro; apply Exists.intro; refine ⟨fun w' hC => ?_, ?_⟩; (go_simp <;> (first | rfl | exact ⟨rfl, rfl⟩)); apply Exists.intro; refine ⟨fun w' hC => ?_, ?_⟩; (first
                  | with_reducible exact grow_call (rlight_c x lm tk w' HPX.out HLX.out) hC
                  | fail); apply Exists.intro; refine ⟨?_, ?_⟩; (go_simp <;> (first | rfl | exact ⟨rfl, rfl⟩)); go_big_quiet_on)))
      all_goals refine wpQuiet_nil ?_
      intro w10 hb10
      clear q0 q1 q2 q3 q4 q5 q6 q7 a0 a1 e0
      go_wp2
      go_roundw
      case rel => exact ⟨i + 1, hlt, by go_num, bX.trans (hb10.mono bX.size)⟩
      case measure => simp [intOf]; omega
    · have hltZ : ¬ (i : Int) < n := by omega
      have BCr := BC.below hbr
      have b2 := BCr.at 2 rfl
      go_wp2_with fail
      clear b2 BCr
      go_loopw [71] (fun v wr => ∃ r : Nat, r ≤ 2 ∧ v = .int .i64 r ∧ Below W.heap.size W wr) (fun v _ => 2 - (intOf v).toNat)
      case atStart => exact ⟨0, by omega, rfl, hbr⟩
      case round =>
        obtain ⟨r, hr, rfl, hbs⟩ := hrel
        by_cases hlr : r < 2
        · have hlrZ : (r : Int) < 2 := by omega
          obtain ⟨bE, oE, rfl, hbE, hcE⟩ := (hX1.grow hbs) (by have := HX.out; omega)
          have n0 := hcE r (by have := HX.out; omega)
          have hnx := hv.nxt r hlr
          clear hcE
          obtain ⟨nv, hnv⟩ : ∃ nv, at_ c.nx r = nv := ⟨_, rfl⟩
          rw [hnv] at n0 hnx
          clear hnv
          obtain ⟨f0, hf0⟩ : ∃ f0 : Bool, (nv == -1) = f0 := ⟨_, rfl⟩
          have HF0 := Lib.hid (show f0 = true ↔ nv = -1 by rw [← hf0, beq_iff_eq])
          have BJs := BJ.below hbs
          have BCs := BC.below hbs
          have a0 := BJs.at 0 rfl
          have a1 := BJs.at 1 rfl
          have a2 := BJs.at 2 rfl
          have b1 := BCs.at 1 rfl
          go_wp2_with fail
          (try rw [hf0])
          refine (rof_n A Bc cP d n n P st r c.gr _ HN.out (hP1.grow hbs) (by omega)).mono ?_
          rintro e W5 ⟨A', c', rfl, hb5, hI5⟩
          clear a0 a1 a2 b1 n0 hf0 BJs BCs
          have hb5 := hbs.trans (hb5.mono hbs.size)
          have HMEM := Lib.hid (show nv = -1 ∨ ∃ j, j < (ofL P r c.gr n).length ∧ at_ (ofL P r c.gr n) j = nv by
            rcases hnx with h | ⟨i, h1, h2, h3, h4⟩
            · exact .inl h
            · exact .inr (by rw [h2]; exact mem_at (mem_ofL P r c.gr i n h1 h3 h4)))
          clear hnx
          have hole := of_le P r c.gr n
          obtain ⟨O, hO⟩ : ∃ O, ofL P r c.gr n = O := ⟨_, rfl⟩
          rw [hO] at HMEM hI5 hole ⊢
          clear hO
          obtain ⟨m, hm⟩ : ∃ m, O.length = m := ⟨_, rfl⟩
          have HM := Lib.hid hm
          rw [hm] at HMEM hole ⊢
          clear hm
          go_wp2_with fail
          go_loopw [9, 84] (fun s9 v wr => ∃ (k : Nat) (f : Bool), k ≤ m ∧ s9 = .bool f ∧ v = .int .i64 k ∧ wr = W5 ∧ (f = true ↔ nv = -1 ∨ ∃ j, j < k ∧ at_ O j = nv)) (fun _ v _ => m - (intOf v).toNat)
          case atStart => exact ⟨0, f0, by omega, rfl, rfl, by first | rfl | trivial, by rw [HF0.out]; exact ⟨fun h => .inl h, fun h => h.elim id (fun ⟨j, hj, _⟩ => absurd hj (by omega))⟩⟩
          case round =>
            obtain ⟨k, f, hk, rfl, rfl, rfl, hf⟩ := hrel
            have HF := Lib.hid hf
            clear hf
            by_cases hlk : k < m
            · have hlkZ : (k : Int) < m := by omega
              obtain ⟨bO, oO, rfl, hbO, hcO⟩ := hI5 (by have := HM.out; omega)
              have n1 := hcO k (by have := HM.out; omega)
              clear hcO
              obtain ⟨ov, hov⟩ : ∃ ov, at_ O k = ov := ⟨_, rfl⟩
              rw [hov] at n1
              have HOV := Lib.hid hov
              clear hov
              cases f with
              | true =>
                go_wp2
                go_roundw
                case rel => exact ⟨k + 1, true, hlk, rfl, by go_num, by first | rfl | trivial, by
                  simp only [true_iff]
                  rcases HF.out.1 (by trivial) with h | ⟨j, hj, e⟩
                  · exact .inl h
                  · exact .inr ⟨j, by omega, e⟩⟩
                case measure => simp [intOf]; omega
              | false =>
                by_cases he : ov = nv
                · have ze : (ov == nv) = true := by simpa using he
                  have HE := Lib.hid he
                  clear he
                  go_wp2
                  go_roundw
                  case rel => exact ⟨k + 1, true, hlk, rfl, by go_num, by first | rfl | trivial, by
                    simp only [true_iff]
                    exact .inr ⟨k, by omega, HOV.out.trans HE.out⟩⟩
                  case measure => simp [intOf]; omega
                · have ze : (ov == nv) = false := by simpa using he
                  have HE := Lib.hid he
                  clear he
                  go_wp2
                  go_roundw
                  case rel => exact ⟨k + 1, false, hlk, rfl, by go_num, by first | rfl | trivial, by
                    simp only [Bool.false_eq_true, false_iff]
                    rintro (h | ⟨j, hj, e⟩)
                    · have := HF.out.2 (.inl h); cases this
                    · by_cases ej : j = k
                      · subst ej; exact HE.out (HOV.out.symm.trans e)
                      · have := HF.out.2 (.inr ⟨j, by omega, e⟩); cases this⟩
                  case measure => simp [intOf]; omega
            · have hlkZ : ¬ (k : Int) < m := by omega
              obtain rfl : m = k := by omega
              have hft : f = true := HF.out.2 HMEM.out
              subst hft
              go_wp2
              go_roundw
              case rel => exact ⟨r + 1, hlr, by go_num, hb5⟩
              case measure => simp [intOf]; omega
        · have hlrZ : ¬ (r : Int) < 2 := by omega
          have HNO := Lib.hid (show ∀ p q, p < n → q < n → hasB sv p = true → hasB sv q = true → hasB (at_ C p) q = false by
            intro p q hp hq h3 h4
            rw [← HSV.out, set_bit] at h3 h4
            simp only [Bool.and_eq_true, decide_eq_true_eq] at h3 h4
            exact hv.no p q hp hq h3.2 h4.2)
          have HRED := Lib.hid (show c.wt ≠ 0 → sv = 0 by
            intro h
            rcases hv.red with e | e
            · exact absurd e h
            · rw [← HSV.out, (setV_zero c.li n).2 e]; rfl)
          have BJs := BJ.below hbs
          have BCs := BC.below hbs
          have hP5 := hP1.grow hbs
          have hL5 := hL1.grow hbs
          have hC5 := hC1.grow hbs
          have HRC := Lib.hid hj.rows.len
          clear hL1 hC1 hP1 hL hC hP hX hX1
          go_wp2_with fail
          have a0 := BJs.laterN 0 rfl
          have a1 := BJs.laterN 1 rfl
          have a2 := BJs.laterN 2 rfl
          have b0 := BCs.laterN 0 rfl
          have b1 := BCs.laterN 1 rfl
          have b2 := BCs.laterN 2 rfl
          have b3 := BCs.laterN 3 rfl
          refine wp_region_grow (by kernel_rfl) (by kernel_rfl) ?_
          repeat' (first
              | go_big_quiet_skip
              | (go_big_quiet_want; first
                  | (go_big_quiet_op; go_big_quiet_on)
                  | (refine quiet_det ?_; apply Exists.intro; refine ⟨fun w' hC => ?_, ?_⟩; (go_simp <;> (first | rfl | exact ⟨rfl, rfl⟩)); apply Exists.intro; refine ⟨?_, ?_⟩; (go_simp <;> (first | rfl | exact ⟨rfl, rfl⟩)); go_big_quiet_on)
                  | (show Oper.quiet _ { dst := _, op := .call { callee := .value _, args := _, argTypes := _ }, type := _, pos := _, after := _, guard := _ } _ _ _; refine quiet_call ?_; apply Exists.intro; apply Exists.intro; refine ⟨fun w' hC => ?_, ?_⟩; (go_simp <;> (first | rfl | exact ⟨rfl, rfl⟩)); apply Exists.intro; refine ⟨fun w' hC => ?_, ?_⟩; (first
                      | with_reducible exact grow_call (rset_c (D := D) (E := E) (cL := cL) (cX := cX) (g := c.gr) (wt := c.wt) w' HL.out (hL5.grow hC) (by omega) HSV.out) hC
                      | with_reducible exact grow_call (rclash_c (A := Bc) (cA := d) w' HRC.out (hC5.grow hC) (by omega) HNO.out) hC
                      | fail); apply Exists.intro; refine ⟨?_, ?_⟩; (go_simp <;> (first | rfl | exact ⟨rfl, rfl⟩)); go_big_quiet_on)))
          all_goals refine wpQuiet_nil ?_
          intro w7 hb7
          clear a0 a1 a2 b0 b1 b2 b3
          have BC7 := BCs.below hb7
          have b7 := hbs.trans (hb7.mono hbs.size)
          by_cases hz : c.wt = 0
          · have zz : (c.wt == 0) = true := by simpa using hz
            clear hz
            have b3 := BC7.at 3 rfl
            go_wp2
            go_ret
            exact ⟨rfl, bW.trans (b7.mono bW.size)⟩
          · have zz : (c.wt == 0) = false := by simpa using hz
            have HS0 := Lib.hid (HRED.out hz)
            clear hz
            have b0 := BC7.at 0 rfl
            have b1 := BC7.at 1 rfl
            have b2 := BC7.at 2 rfl
            have b3 := BC7.at 3 rfl
            go_wp2_with fail
            refine (rset_c (D := D) (E := E) (cL := cL) (cX := cX) (g := c.gr) (wt := c.wt) w7 HL.out (hL5.grow hb7) (by omega) (HSV.out.trans HS0.out)).mono ?_
            rintro e w8 ⟨rfl, hb8⟩
            clear b0 b1 b2 b3
            go_wp2
            go_ret
            exact ⟨rfl, bW.trans ((b7.trans (hb8.mono b7.size)).mono bW.size)⟩
end Go.Proofs.Ytkpbkahmbbkcdaa
