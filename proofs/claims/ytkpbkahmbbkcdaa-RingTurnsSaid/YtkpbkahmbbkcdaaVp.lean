/-
  A control that is valid, the program's ring says so. Conditions: a valid junction.
-/
import Derived.Test.YtkpbkahmbbkcdaaCl
import Derived.Test.YtkpbkahmbbkcdaaLp
import Derived.Test.YtkpbkahmbbkcdaaPn
namespace Go.Proofs.Ytkpbkahmbbkcdaa
open Go.ChangeShapes Go.WideShapes Go.RowKit
set_option linter.unusedVariables false

theorem has_c {x : Int} {k : Nat} {b : Bool} (h : hasB x k = b) (hk : k < 64) (w : World) : Calls Try.prog 65 #[.int .i64 x, .int .i64 k] w fun e w' => e = .returned (.bool b) ∧ w = w' := by
  subst h; exact has_any x k hk w
set_option maxHeartbeats 1000000 in
theorem pclash_no (A : Option Addr) (cA n : Nat) (C : List Int) (x : Int) (w : World) (hCn : C.length = n) (hC : Ints .i64 w w.heap.size A C) (h8 : n ≤ 60) (hno : ∀ p q, p < n → q < n → hasB x p = true → hasB x q = true → hasB (at_ C p) q = false) :
    Calls Try.prog 37 #[.slice A n cA, .int .i64 x] w fun e w' => e = .returned (.tuple #[.int .i64 (-1), .int .i64 (-1)]) ∧ w = w' := by
  have HC := Lib.hid hCn
  have HNO := Lib.hid hno
  clear hCn hno
  go_enter Try.func37, Try.ntmps37
  go_wp2
  go_loopw [10] (fun v wr => ∃ p : Nat, p ≤ n ∧ v = .int .i64 p ∧ w = wr) (fun v _ => n - (intOf v).toNat)
  case atStart => exact ⟨0, by omega, rfl, rfl⟩
  case round =>
    obtain ⟨p, hp, rfl, rfl⟩ := hrel
    by_cases hlp : p < n
    · have hlpZ : (p : Int) < n := by omega
      go_wp2
      go_loopw [15] (fun v wr => ∃ q : Nat, q ≤ n ∧ v = .int .i64 q ∧ w = wr) (fun v _ => n - (intOf v).toNat)
      case atStart => exact ⟨0, by omega, rfl, rfl⟩
      case round =>
        obtain ⟨q, hq, rfl, rfl⟩ := hrel
        by_cases hlq : q < n
        · have hlqZ : (q : Int) < n := by omega
          obtain ⟨b1, h1⟩ : ∃ b1, hasB x p = b1 := ⟨_, rfl⟩
          have H1 := Lib.hid h1
          clear h1
          cases b1 with
          | false =>
            go_wp2_with fail
            refine (has_c H1.out (by omega) _).mono ?_
            rintro e w' ⟨rfl, rfl⟩
            go_wp2
            go_roundw
            case rel => exact ⟨q + 1, hlq, by go_num, by first | rfl | trivial⟩
            case measure => simp [intOf]; omega
          | true =>
            obtain ⟨b2, h2⟩ : ∃ b2, hasB x q = b2 := ⟨_, rfl⟩
            have H2 := Lib.hid h2
            clear h2
            cases b2 with
            | false =>
              go_wp2_with fail
              refine (has_c H1.out (by omega) _).mono ?_
              rintro e w' ⟨rfl, rfl⟩
              go_wp2_with fail
              refine (has_c H2.out (by omega) _).mono ?_
              rintro e w' ⟨rfl, rfl⟩
              go_wp2
              go_roundw
              case rel => exact ⟨q + 1, hlq, by go_num, by first | rfl | trivial⟩
              case measure => simp [intOf]; omega
            | true =>
              have H3 := Lib.hid (HNO.out p q hlp hlq H1.out H2.out)
              go_wp2_with fail
              refine (has_c H1.out (by omega) _).mono ?_
              rintro e w' ⟨rfl, rfl⟩
              go_wp2_with fail
              refine (has_c H2.out (by omega) _).mono ?_
              rintro e w' ⟨rfl, rfl⟩
              go_wp2_with fail
              refine (pcon_c C A cA n p q _ HC.out hC h8 hlp hlq H3.out).mono ?_
              rintro e w' ⟨rfl, rfl⟩
              go_wp2
              go_roundw
              case rel => exact ⟨q + 1, hlq, by go_num, by first | rfl | trivial⟩
              case measure => simp [intOf]; omega
        · have hlqZ : ¬ (q : Int) < n := by omega
          go_wp2
          go_roundw
          case rel => exact ⟨p + 1, hlp, by go_num, by first | rfl | trivial⟩
          case measure => simp [intOf]; omega
    · have hlpZ : ¬ (p : Int) < n := by omega
      go_wp2
      refine bodyPost_ret (results_tmp2 rfl _ _ _) rfl ?_
      exact ⟨rfl, by first | rfl | trivial⟩

theorem pclash_c {A : Option Addr} {cA n : Nat} {C : List Int} {x : Int} (w : World) (hCn : C.length = n) (hC : Ints .i64 w w.heap.size A C) (h8 : n ≤ 60) (hno : ∀ p q, p < n → q < n → hasB x p = true → hasB x q = true → hasB (at_ C p) q = false) :
    Calls Try.prog 37 #[.slice A n cA, .int .i64 x] w fun e w' => e = .returned (.tuple #[.int .i64 (-1), .int .i64 (-1)]) ∧ Below w.heap.size w w' :=
  (pclash_no A cA n C x w hCn hC h8 hno).mono fun e w' ⟨h1, h2⟩ => ⟨h1, by rw [h2]; exact Below.refl _ _⟩
theorem plan_t {A B : Option Addr} {c d n m : Nat} {P : List Ph} {C : List Int} {st : Int} (w : World) (hn : P.length = n) (hm : C.length = m) (hP : Phs w w.heap.size A P) (hI : Ints .i64 w w.heap.size B C) (hc : n ≤ c) (hj : JunV P C st) :
    Calls Try.prog 35 #[.agg #[.slice A n c, .slice B m d, .int .i64 st]] w fun e w' => e = .returned (.bool true) ∧ Below w.heap.size w w' := by
  have h := plan_any A B c d n m P C st w hn hm hP hI hc
  rw [jun_t hj] at h
  exact h
theorem plight_c (p : Ph) (lm tk : Int) (w : World) (hp : PhOk p) (h : LiOk p lm tk) : Calls Try.prog 36 #[.agg #[.int .i64 p.ri, .int .i64 p.gr, .int .i64 p.mn, .int .i64 p.mx, .int .i64 p.yl, .int .i64 p.rd, .int .i64 p.wk, .int .i64 p.cl], .agg #[.int .i64 lm, .int .i64 tk]] w fun e w' => e = .returned (.bool true) ∧ Below w.heap.size w w' := by
  have hb := LiOk.bd hp h
  have := lvalid_any p lm tk w hp (by omega) (by omega)
  rw [valB_ok h] at this
  exact this
theorem pset_c {D : Option Addr} {vX : Value} {cL n : Nat} {L : List (Int × Int)} {g wt : Int} (w : World) (hLn : L.length = n) (hL : Prs w w.heap.size D L) (h8 : n ≤ 60) {s : Int} (hs : ((setV L n : Nat) : Int) = s) :
    Calls Try.prog 19 #[.agg #[.slice D n cL, .int .i64 g, vX, .int .i64 wt]] w fun e w' => e = .returned (.int .i64 s) ∧ Below w.heap.size w w' := by
  subst hs; exact pset_any D vX cL n L g wt w hLn hL h8
theorem pgroups_g {A B : Option Addr} {c d n m : Nat} {P : List Ph} {st G : Int} (h : groupsI P n = G) (w : World) (hn : P.length = n) (hP : Phs w w.heap.size A P) (hl : n ≤ 60) (hg : ∀ i, i < n → 0 ≤ (phAt P i).gr ∧ (phAt P i).gr ≤ 3) :
    Calls Try.prog 38 #[.agg #[.slice A n c, .slice B m d, .int .i64 st]] w fun e w' => e = .returned (.int .i64 G) ∧ Below w.heap.size w w' := by
  subst h; exact groups_n A B c d n m P st w hn hP hl hg
set_option maxRecDepth 20000 in
set_option maxHeartbeats 4000000 in
theorem pnext_t (Bc D E : Option Addr) (b off cP d cL cX n : Nat) (P : List Ph) (C : List Int) (c : Ct) (st : Int) (w : World) (hb : b < w.heap.size) (hph : ∀ i, i < n → PhHere w b (off + i * 8) (phAt P i)) (hl : n ≤ 60) (hv : CtV P C n st c) (hX : Ints .i64 w w.heap.size E c.nx) :
    Calls Try.prog 39 #[.agg #[.slice (some ⟨b, off, none⟩) n cP, .slice Bc n d, .int .i64 st], .agg #[.slice D n cL, .int .i64 c.gr, .slice E 2 cX, .int .i64 c.wt]] w fun e w' => e = .returned (.bool true) ∧ Below w.heap.size w w' := by
  have HX := Lib.hid hv.nx
  have bW := lat_alloc (lat_alloc (Below.refl w.heap.size w) (.cells #[.slice (some ⟨b, off, none⟩) n cP, .slice Bc n d, .int .i64 st] 30)) (.cells #[.slice D n cL, .int .i64 c.gr, .slice E 2 cX, .int .i64 c.wt] 25)
  have BJ := (Blk.new (w := w) (t := 30) (cs := #[.slice (some ⟨b, off, none⟩) n cP, .slice Bc n d, .int .i64 st])).alloc (.cells #[.slice D n cL, .int .i64 c.gr, .slice E 2 cX, .int .i64 c.wt] 25)
  have BC := Blk.new (w := w.alloc (.cells #[.slice (some ⟨b, off, none⟩) n cP, .slice Bc n d, .int .i64 st] 30)) (t := 25) (cs := #[.slice D n cL, .int .i64 c.gr, .slice E 2 cX, .int .i64 c.wt])
  rw [heap_size] at BC
  have hX1 := hX.grow bW
  have hph1 : ∀ i, i < n → PhHere ((w.alloc (.cells #[.slice (some ⟨b, off, none⟩) n cP, .slice Bc n d, .int .i64 st] 30)).alloc (.cells #[.slice D n cL, .int .i64 c.gr, .slice E 2 cX, .int .i64 c.wt] 25)) b (off + i * 8) (phAt P i) := fun i hi => (hph i hi).block (bW.block b hb)
  have hb1 : b < ((w.alloc (.cells #[.slice (some ⟨b, off, none⟩) n cP, .slice Bc n d, .int .i64 st] 30)).alloc (.cells #[.slice D n cL, .int .i64 c.gr, .slice E 2 cX, .int .i64 c.wt] 25)).heap.size := Nat.lt_of_lt_of_le hb bW.size
  go_enter Try.func39, Try.ntmps39
  go_wp2_with fail
  generalize (w.alloc (.cells #[.slice (some ⟨b, off, none⟩) n cP, .slice Bc n d, .int .i64 st] 30)).alloc (.cells #[.slice D n cL, .int .i64 c.gr, .slice E 2 cX, .int .i64 c.wt] 25) = W at *
  clear hph hX
  go_loopw [10] (fun v wr => ∃ r : Nat, r ≤ 2 ∧ v = .int .i64 r ∧ Below W.heap.size W wr) (fun v _ => 2 - (intOf v).toNat)
  case atStart => exact ⟨0, by omega, rfl, Below.refl _ _⟩
  case round =>
    obtain ⟨r, hr, rfl, hbs⟩ := hrel
    by_cases hlr : r < 2
    · have hlrZ : (r : Int) < 2 := by omega
      obtain ⟨bE, oE, rfl, hbE, hcE⟩ := (hX1.grow hbs) (by have := HX.out; omega)
      have n0 := hcE r (by have := HX.out; omega)
      have hnx := hv.nxt r hlr
      clear hcE
      obtain ⟨nv, hnv⟩ : ∃ nv, at_ c.nx r = nv := ⟨_, rfl⟩
      rw [hnv] at n0 hnx
      clear hnv
      rcases hnx with rfl | ⟨i, hi, rfl, hri, hgi⟩
      · go_wp2
        go_roundw
        case rel => exact ⟨r + 1, hlr, by go_num, hbs⟩
        case measure => simp [intOf]; omega
      · have z1 : (((i : Nat) : Int) == -1) = false := by simp
        have hiZ : (i : Int) < n := by omega
        have BJs := BJ.below hbs
        have BCs := BC.below hbs
        have hXr := (hph1 i hi).block (hbs.block b hb1)
        have hbr : b < wr.heap.size := Nat.lt_of_lt_of_le hb1 hbs.size
        obtain ⟨x, hx⟩ : ∃ x, phAt P i = x := ⟨_, rfl⟩
        rw [hx] at hXr hri hgi
        clear hx
        have z2 : (x.ri != ((r : Nat) : Int)) = false := by simpa using hri
        have z3 : (x.gr != c.gr) = false := by simpa using hgi
        clear hri hgi
        obtain ⟨q0, q1, q2, q3, q4, q5, q6, q7⟩ := ph_later hXr hbr
        clear q2 q3 q4 q5 q6 q7
        go_wp2_with fail
        have a0 := BJs.laterN 0 rfl
        have a1 := BJs.laterN 1 rfl
        have a2 := BJs.laterN 2 rfl
        have b1 := BCs.laterN 1 rfl
        have HIP := Lib.hid (show decide (0 ≤ ((i : Nat) : Int) ∧ ((i : Nat) : Int) < (n : Int)) = true by simp; omega)
        clear BJs BCs
        refine wp_region_grow (by kernel_rfl) (by kernel_rfl) ?_
        repeat' (first
            | go_big_quiet_skip
            | (go_big_quiet_want; first
                | (go_big_quiet_op; go_big_quiet_on)
                | (refine quiet_det ?_; apply Exists.intro; refine ⟨fun w' hC => ?_, ?_⟩; (go_simp <;> (first | rfl | exact ⟨rfl, rfl⟩)); apply Exists.intro; refine ⟨?_, ?_⟩; (go_simp <;> (first | rfl | exact ⟨rfl, rfl⟩)); go_big_quiet_on)
                | (show Oper.quiet _ { dst := _, op := .call { callee := .value _, args := _, argTypes := _ }, type := _, pos := _, after := _, guard := _ } _ _ _; refine quiet_call ?_; apply Exists.intro; apply Exists.intro; refine ⟨fun w' hC => ?_, ?_⟩; (go_simp <;> (first | rfl | exact ⟨rfl, rfl⟩)); apply Exists.intro; refine ⟨fun w' hC => ?_, ?_⟩; (first
                    | with_reducible exact grow_call (isPhase_c w' HIP.out) hC
                    | fail); apply Exists.intro; refine ⟨?_, ?_⟩; (go_simp <;> (first | rfl | exact ⟨rfl, rfl⟩)); go_big_quiet_on)))
        all_goals refine wpQuiet_nil ?_
        intro w7 hb7
        clear a0 a1 a2 b1 q0 q1
        go_wp2
        go_roundw
        case rel => exact ⟨r + 1, hlr, by go_num, hbs.trans (hb7.mono hbs.size)⟩
        case measure => simp [intOf]; omega
    · have hlrZ : ¬ (r : Int) < 2 := by omega
      obtain rfl : r = 2 := by omega
      have b2 := (BC.below hbs).at 2 rfl
      go_wp2
      go_ret
      exact ⟨rfl, bW.trans (hbs.mono bW.size)⟩
theorem pnext_c {Bc D E : Option Addr} {b off cP d cL cX n : Nat} {P : List Ph} {C : List Int} {c : Ct} {st : Int} (w : World) (hb : b < w.heap.size) (hph : ∀ i, i < n → PhHere w b (off + i * 8) (phAt P i)) (hl : n ≤ 60) (hv : CtV P C n st c) (hX : Ints .i64 w w.heap.size E c.nx) :
    Calls Try.prog 39 #[.agg #[.slice (some ⟨b, off, none⟩) n cP, .slice Bc n d, .int .i64 st], .agg #[.slice D n cL, .int .i64 c.gr, .slice E 2 cX, .int .i64 c.wt]] w fun e w' => e = .returned (.bool true) ∧ Below w.heap.size w w' := pnext_t Bc D E b off cP d cL cX n P C c st w hb hph hl hv hX
set_option maxRecDepth 20000 in
set_option maxHeartbeats 4000000 in
theorem pvalid_t (Bc D E : Option Addr) (b off cP d cL cX n : Nat) (P : List Ph) (C : List Int) (c : Ct) (st : Int) (w : World) (hj : JunC P C n st) (hjv : JunV P C st) (hv : CtV P C n st c) (hb : b < w.heap.size) (hph : ∀ i, i < n → PhHere w b (off + i * 8) (phAt P i)) (hC : Ints .i64 w w.heap.size Bc C) (hcP : n ≤ cP) (hL : Prs w w.heap.size D c.li) (hX : Ints .i64 w w.heap.size E c.nx) :
    Calls Try.prog 17 #[.agg #[.slice (some ⟨b, off, none⟩) n cP, .slice Bc n d, .int .i64 st], .agg #[.slice D n cL, .int .i64 c.gr, .slice E 2 cX, .int .i64 c.wt]] w fun e w' => e = .returned (.bool true) ∧ Below w.heap.size w w' := by
  have h1 := hj.h1
  have h8 := hj.h8
  have HN := Lib.hid hj.len
  have HL := Lib.hid hv.li
  have HX := Lib.hid hv.nx
  have HRC := Lib.hid hj.rows.len
  have hg0 := hv.gr
  have hw0 := hv.wt
  have hst0 := hj.st
  have hP : Phs w w.heap.size (some ⟨b, off, none⟩) P := fun _ => ⟨b, off, rfl, hb, fun i hi => hph i (by have := HN.out; omega)⟩
  have bW := lat_alloc (lat_alloc (Below.refl w.heap.size w) (.cells #[.slice (some ⟨b, off, none⟩) n cP, .slice Bc n d, .int .i64 st] 30)) (.cells #[.slice D n cL, .int .i64 c.gr, .slice E 2 cX, .int .i64 c.wt] 25)
  have BJ := (Blk.new (w := w) (t := 30) (cs := #[.slice (some ⟨b, off, none⟩) n cP, .slice Bc n d, .int .i64 st])).alloc (.cells #[.slice D n cL, .int .i64 c.gr, .slice E 2 cX, .int .i64 c.wt] 25)
  have BC := Blk.new (w := w.alloc (.cells #[.slice (some ⟨b, off, none⟩) n cP, .slice Bc n d, .int .i64 st] 30)) (t := 25) (cs := #[.slice D n cL, .int .i64 c.gr, .slice E 2 cX, .int .i64 c.wt])
  rw [heap_size] at BC
  have hP1 := hP.grow bW
  have hC1 := hC.grow bW
  have hL1 := hL.grow bW
  have hX1 := hX.grow bW
  have hb1 : b < ((w.alloc (.cells #[.slice (some ⟨b, off, none⟩) n cP, .slice Bc n d, .int .i64 st] 30)).alloc (.cells #[.slice D n cL, .int .i64 c.gr, .slice E 2 cX, .int .i64 c.wt] 25)).heap.size := Nat.lt_of_lt_of_le hb bW.size
  have hph1 : ∀ i, i < n → PhHere ((w.alloc (.cells #[.slice (some ⟨b, off, none⟩) n cP, .slice Bc n d, .int .i64 st] 30)).alloc (.cells #[.slice D n cL, .int .i64 c.gr, .slice E 2 cX, .int .i64 c.wt] 25)) b (off + i * 8) (phAt P i) := fun i hi => (hph i hi).block (bW.block b hb)
  obtain ⟨sv, hsv⟩ : ∃ sv, ((setV c.li n : Nat) : Int) = sv := ⟨_, rfl⟩
  have HSV := Lib.hid hsv
  clear hsv
  obtain ⟨G, hG⟩ : ∃ G, groupsI P n = G := ⟨_, rfl⟩
  have HG := Lib.hid hG
  rw [hG] at hg0
  have z1 : ((n : Int) != (n : Int)) = false := by simp
  have z2 : decide (0 ≤ c.gr) = true := decide_eq_true (by omega)
  have z3 : decide (c.gr < G) = true := decide_eq_true (by omega)
  have z4 : decide (c.wt < 0) = false := decide_eq_false (by omega)
  have z5 : decide (st < c.wt) = false := decide_eq_false (by omega)
  have HNO := Lib.hid (show ∀ p q, p < n → q < n → hasB sv p = true → hasB sv q = true → hasB (at_ C p) q = false by
    intro p q hp hq h3 h4
    rw [← HSV.out, set_bit] at h3 h4
    simp only [Bool.and_eq_true, decide_eq_true_eq] at h3 h4
    exact hv.no p q hp hq h3.2 h4.2)
  have HRED := Lib.hid (show c.wt ≠ 0 → sv = 0 by
    intro h
    rcases hv.red with e | e
    · exact absurd e h
    · rw [← HSV.out, (setV_zero c.li n).2 e]; rfl)
  clear hG hP hC hL hX hph
  go_enter Try.func17, Try.ntmps17
  go_wp2_with fail
  generalize (w.alloc (.cells #[.slice (some ⟨b, off, none⟩) n cP, .slice Bc n d, .int .i64 st] 30)).alloc (.cells #[.slice D n cL, .int .i64 c.gr, .slice E 2 cX, .int .i64 c.wt] 25) = W at *
  refine (plan_t (B := Bc) (c := cP) (d := d) W HN.out HRC.out hP1 hC1 hcP hjv).mono ?_
  rintro e w3 ⟨rfl, hb3⟩
  have BC3 := BC.below hb3
  have BJ3 := BJ.below hb3
  have b0 := BC3.at 0 rfl
  have a0 := BJ3.at 0 rfl
  go_wp2_with fail
  clear b0 a0 BC3 BJ3
  go_loopw [24] (fun v wr => ∃ i : Nat, i ≤ n ∧ v = .int .i64 i ∧ Below W.heap.size W wr) (fun v _ => n - (intOf v).toNat)
  case atStart => exact ⟨0, by omega, rfl, hb3⟩
  case round =>
    obtain ⟨i, hi, rfl, hbr⟩ := hrel
    by_cases hlt : i < n
    · have hltZ : (i : Int) < n := by omega
      have hXr := (hph1 i hlt).block (hbr.block b hb1)
      have hbB : b < wr.heap.size := Nat.lt_of_lt_of_le hb1 hbr.size
      obtain ⟨bD, oD, rfl, hbD, l0, l1⟩ := (hL1.grow hbr).at (i := i) (by have := HL.out; omega)
      have hpx := hj.pok i hlt
      have hlx := hv.ok i hlt
      obtain ⟨x, hx⟩ : ∃ x, phAt P i = x := ⟨_, rfl⟩
      obtain ⟨lm, hlm⟩ : ∃ lm, lmp c.li i = lm := ⟨_, rfl⟩
      obtain ⟨tk, htk⟩ : ∃ tk, tck c.li i = tk := ⟨_, rfl⟩
      have hl0 : (prAt c.li i).1 = lm := hlm
      have hl1 : (prAt c.li i).2 = tk := htk
      rw [hx] at hXr hlx hpx
      rw [hlm, htk] at hlx
      rw [hl0] at l0
      rw [hl1] at l1
      have HPX := Lib.hid hpx
      have HLX := Lib.hid hlx
      clear hx hlm htk hl0 hl1 hlx hpx
      have X6 := Blk.new (w := wr) (t := 45) (cs := #[.int .i64 lm, .int .i64 tk])
      have hbx := lat_alloc (Below.refl wr.heap.size wr) (.cells #[.int .i64 lm, .int .i64 tk] 45)
      have Jr := (BJ.below hbr).below hbx
      have hXb := hXr.block (hbx.block b hbB)
      have hbb : b < (wr.alloc (.cells #[.int .i64 lm, .int .i64 tk] 45)).heap.size := Nat.lt_of_lt_of_le hbB hbx.size
      have bX := hbr.trans (hbx.mono hbr.size)
      go_wp2_with fail
      clear l0 l1 hXr hbx
      generalize wr.alloc (.cells #[.int .i64 lm, .int .i64 tk] 45) = W9 at *
      generalize hg6 : wr.heap.size = g6 at X6 ⊢
      clear hg6
      obtain ⟨q0, q1, q2, q3, q4, q5, q6, q7⟩ := ph_later hXb hbb
      have a0 := X6.laterN 0 rfl
      have a1 := X6.laterN 1 rfl
      have e0 := Jr.laterN 0 rfl
      refine wp_region_grow (by kernel_rfl) (by kernel_rfl) ?_
      repeat' (first
          | go_big_quiet_skip
          | (go_big_quiet_want; first
              | (go_big_quiet_op; go_big_quiet_on)
              | (refine quiet_det ?_; apply Exists.intro; refine ⟨fun w' hC => ?_, ?_⟩; (go_simp <;> (first | rfl | exact ⟨rfl, rfl⟩)); apply Exists.intro; refine ⟨?_, ?_⟩; (go_simp <;> (first | rfl | exact ⟨rfl, rfl⟩)); go_big_quiet_on)
              | (show Oper.quiet _ { dst := _, op := .call { callee := .value _, args := _, argTypes := _ }, type := _, pos := _, after := _, guard := _ } _ _ _; refine quiet_call ?_; apply Exists.intro; apply Exists.intro; refine ⟨fun w' hC => ?_, ?_⟩; (go_simp <;> (first | rfl | exact ⟨rfl, rfl⟩)); apply Exists.intro; refine ⟨fun w' hC => ?_, ?_⟩; (first
                  | with_reducible exact grow_call (plight_c x lm tk w' HPX.out HLX.out) hC
                  | fail); apply Exists.intro; refine ⟨?_, ?_⟩; (go_simp <;> (first | rfl | exact ⟨rfl, rfl⟩)); go_big_quiet_on)))
      all_goals refine wpQuiet_nil ?_
      intro w10 hb10
      clear q0 q1 q2 q3 q4 q5 q6 q7 a0 a1 e0
      go_wp2
      go_roundw
      case rel => exact ⟨i + 1, hlt, by go_num, bX.trans (hb10.mono bX.size)⟩
      case measure => simp [intOf]; omega
    · have hltZ : ¬ (i : Int) < n := by omega
      have BJs := BJ.below hbr
      have BCs := BC.below hbr
      have hP5 := hP1.grow hbr
      have hL5 := hL1.grow hbr
      have hC5 := hC1.grow hbr
      have hX5 := hX1.grow hbr
      have hb5 : b < wr.heap.size := Nat.lt_of_lt_of_le hb1 hbr.size
      have hph5 : ∀ i, i < n → PhHere wr b (off + i * 8) (phAt P i) := fun i hi => (hph1 i hi).block (hbr.block b hb1)
      clear hL1 hC1 hP1 hX1 hph1
      go_wp2_with fail
      have a0 := BJs.laterN 0 rfl
      have a1 := BJs.laterN 1 rfl
      have a2 := BJs.laterN 2 rfl
      have b0 := BCs.laterN 0 rfl
      have b1 := BCs.laterN 1 rfl
      have b2 := BCs.laterN 2 rfl
      have b3 := BCs.laterN 3 rfl
      refine wp_region_grow (by kernel_rfl) (by kernel_rfl) ?_
      repeat' (first
          | go_big_quiet_skip
          | (go_big_quiet_want; first
              | (go_big_quiet_op; go_big_quiet_on)
              | (refine quiet_det ?_; apply Exists.intro; refine ⟨fun w' hC => ?_, ?_⟩; (go_simp <;> (first | rfl | exact ⟨rfl, rfl⟩)); apply Exists.intro; refine ⟨?_, ?_⟩; (go_simp <;> (first | rfl | exact ⟨rfl, rfl⟩)); go_big_quiet_on)
              | (show Oper.quiet _ { dst := _, op := .call { callee := .value _, args := _, argTypes := _ }, type := _, pos := _, after := _, guard := _ } _ _ _; refine quiet_call ?_; apply Exists.intro; apply Exists.intro; refine ⟨fun w' hC => ?_, ?_⟩; (go_simp <;> (first | rfl | exact ⟨rfl, rfl⟩)); apply Exists.intro; refine ⟨fun w' hC => ?_, ?_⟩; (first
                  | with_reducible exact grow_call (pset_c (D := D) (vX := .slice E 2 cX) (cL := cL) (g := c.gr) (wt := c.wt) w' HL.out (hL5.grow hC) (by omega) HSV.out) hC
                  | with_reducible exact grow_call (pclash_c (A := Bc) (cA := d) w' HRC.out (hC5.grow hC) (by omega) HNO.out) hC
                  | fail); apply Exists.intro; refine ⟨?_, ?_⟩; (go_simp <;> (first | rfl | exact ⟨rfl, rfl⟩)); go_big_quiet_on)))
      all_goals refine wpQuiet_nil ?_
      intro w7 hb7
      clear a0 a1 a2 b0 b1 b2 b3
      have BC7 := BCs.below hb7
      have BJ7 := BJs.below hb7
      have b7 := hbr.trans (hb7.mono hbr.size)
      have hb7' : b < w7.heap.size := Nat.lt_of_lt_of_le hb5 hb7.size
      have hph7 : ∀ i, i < n → PhHere w7 b (off + i * 8) (phAt P i) := fun i hi => (hph5 i hi).block (hb7.block b hb5)
      have hP7 := hP5.grow hb7
      have hL7 := hL5.grow hb7
      have hX7 := hX5.grow hb7
      have b3 := BC7.at 3 rfl
      have a2 := BJ7.at 2 rfl
      by_cases hz : c.wt = 0
      · have zz : decide (0 < c.wt) = false := decide_eq_false (by omega)
        clear hz
        go_wp2_with fail
        clear b3 a2
        have a0 := BJ7.laterN 0 rfl
        have a1 := BJ7.laterN 1 rfl
        have a2 := BJ7.laterN 2 rfl
        have b0 := BC7.laterN 0 rfl
        have b1 := BC7.laterN 1 rfl
        have b2 := BC7.laterN 2 rfl
        have b3 := BC7.laterN 3 rfl
        refine wp_region_grow (by kernel_rfl) (by kernel_rfl) ?_
        repeat' (first
            | go_big_quiet_skip
            | (go_big_quiet_want; first
                | (go_big_quiet_op; go_big_quiet_on)
                | (refine quiet_det ?_; apply Exists.intro; refine ⟨fun w' hC => ?_, ?_⟩; (go_simp <;> (first | rfl | exact ⟨rfl, rfl⟩)); apply Exists.intro; refine ⟨?_, ?_⟩; (go_simp <;> (first | rfl | exact ⟨rfl, rfl⟩)); go_big_quiet_on)
                | (show Oper.quiet _ { dst := _, op := .call { callee := .value _, args := _, argTypes := _ }, type := _, pos := _, after := _, guard := _ } _ _ _; refine quiet_call ?_; apply Exists.intro; apply Exists.intro; refine ⟨fun w' hC => ?_, ?_⟩; (go_simp <;> (first | rfl | exact ⟨rfl, rfl⟩)); apply Exists.intro; refine ⟨fun w' hC => ?_, ?_⟩; (first
                    | with_reducible exact grow_call (pgroups_g (B := Bc) (c := cP) (d := d) (m := n) HG.out w' HN.out (hP7.grow hC) (by omega) hj.gr) hC
                    | with_reducible exact grow_call (pnext_c (C := C) (c := c) w' (Nat.lt_of_lt_of_le hb7' hC.size) (fun i hi => (hph7 i hi).block (hC.block b hb7')) (by omega) hv (hX7.grow hC)) hC
                    | fail); apply Exists.intro; refine ⟨?_, ?_⟩; (go_simp <;> (first | rfl | exact ⟨rfl, rfl⟩)); go_big_quiet_on)))
        all_goals refine wpQuiet_nil ?_
        intro w8 hb8
        clear a0 a1 a2 b0 b1 b2 b3
        go_wp2
        go_ret
        exact ⟨rfl, bW.trans ((b7.trans (hb8.mono b7.size)).mono bW.size)⟩
      · have zz : decide (0 < c.wt) = true := decide_eq_true (by omega)
        have HS0 := Lib.hid (HRED.out hz)
        clear hz
        have b0 := BC7.at 0 rfl
        have b1 := BC7.at 1 rfl
        have b2 := BC7.at 2 rfl
        go_wp2_with fail
        refine (pset_c (D := D) (vX := .slice E 2 cX) (cL := cL) (g := c.gr) (wt := c.wt) w7 HL.out hL7 (by omega) (HSV.out.trans HS0.out)).mono ?_
        rintro e w8 ⟨rfl, hb8⟩
        clear b0 b1 b2 b3 a2
        go_wp2_with fail
        have BC8 := BC7.below hb8
        have BJ8 := BJ7.below hb8
        have b8 := b7.trans (hb8.mono b7.size)
        have hb8' : b < w8.heap.size := Nat.lt_of_lt_of_le hb7' hb8.size
        have hph8 : ∀ i, i < n → PhHere w8 b (off + i * 8) (phAt P i) := fun i hi => (hph7 i hi).block (hb8.block b hb7')
        have hP8 := hP7.grow hb8
        have hX8 := hX7.grow hb8
        have a0 := BJ8.laterN 0 rfl
        have a1 := BJ8.laterN 1 rfl
        have a2 := BJ8.laterN 2 rfl
        have b0 := BC8.laterN 0 rfl
        have b1 := BC8.laterN 1 rfl
        have b2 := BC8.laterN 2 rfl
        have b3 := BC8.laterN 3 rfl
        refine wp_region_grow (by kernel_rfl) (by kernel_rfl) ?_
        repeat' (first
            | go_big_quiet_skip
            | (go_big_quiet_want; first
                | (go_big_quiet_op; go_big_quiet_on)
                | (refine quiet_det ?_; apply Exists.intro; refine ⟨fun w' hC => ?_, ?_⟩; (go_simp <;> (first | rfl | exact ⟨rfl, rfl⟩)); apply Exists.intro; refine ⟨?_, ?_⟩; (go_simp <;> (first | rfl | exact ⟨rfl, rfl⟩)); go_big_quiet_on)
                | (show Oper.quiet _ { dst := _, op := .call { callee := .value _, args := _, argTypes := _ }, type := _, pos := _, after := _, guard := _ } _ _ _; refine quiet_call ?_; apply Exists.intro; apply Exists.intro; refine ⟨fun w' hC => ?_, ?_⟩; (go_simp <;> (first | rfl | exact ⟨rfl, rfl⟩)); apply Exists.intro; refine ⟨fun w' hC => ?_, ?_⟩; (first
                    | with_reducible exact grow_call (pgroups_g (B := Bc) (c := cP) (d := d) (m := n) HG.out w' HN.out (hP8.grow hC) (by omega) hj.gr) hC
                    | with_reducible exact grow_call (pnext_c (C := C) (c := c) w' (Nat.lt_of_lt_of_le hb8' hC.size) (fun i hi => (hph8 i hi).block (hC.block b hb8')) (by omega) hv (hX8.grow hC)) hC
                    | fail); apply Exists.intro; refine ⟨?_, ?_⟩; (go_simp <;> (first | rfl | exact ⟨rfl, rfl⟩)); go_big_quiet_on)))
        all_goals refine wpQuiet_nil ?_
        intro w9 hb9
        clear a0 a1 a2 b0 b1 b2 b3
        go_wp2
        go_ret
        exact ⟨rfl, bW.trans ((b8.trans (hb9.mono b8.size)).mono bW.size)⟩
end Go.Proofs.Ytkpbkahmbbkcdaa
